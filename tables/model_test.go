package tables_test

import (
	"fmt"
	"math/rand/v2"
	"slices"
	"strings"
	"testing"

	"hornbook/aff"
	"hornbook/api"
	"hornbook/dic"
	"hornbook/tables"
)

// Here the tables are held against a plain second writing of the chapter's
// words, which goes over all rules of a file that was read apart, and asks each
// for its flag.

type model struct {
	said    api.Affixes
	entries []api.Entry
}

func (m model) rules(kind int, flags []api.Flag) []int {
	var numbers []int
	for n, r := range m.said.Rules {
		if r.Kind == kind && slices.Contains(flags, r.Flag) {
			numbers = append(numbers, n)
		}
	}
	return numbers
}

func (m model) has(which int, flags []api.Flag) bool {
	for _, f := range flags {
		if f == m.said.Specials[which] {
			return true
		}
	}
	return false
}

// checkTexts: what both texts say, or their fault; whether they are taken is answered.
func checkTexts(t *testing.T, affixes, words string) bool {
	t.Helper()
	u, got := tables.Read(affixes, words)
	file, fault := aff.Read(affixes)
	var m model
	if fault == (api.Fault{}) {
		var d *dic.Words
		d, fault = dic.Read(file, words)
		m = model{file.Affixes(), d.Entries()}
	}
	if got != fault || (u == nil) != (fault != api.Fault{}) {
		t.Fatalf("Read(%.900q, %.900q) = %v, %v; want %v", affixes, words, u, got, fault)
	}
	if u != nil {
		m.checkRules(t, u)
		m.checkEntries(t, u)
	}
	if t.Failed() {
		t.Fatalf("of %.2000q and %.2000q", affixes, words)
	}
	return u != nil
}

func (m model) checkRules(t *testing.T, u *tables.Tables) {
	t.Helper()
	for n, r := range m.said.Rules {
		expectRule(t, u, n, r)
		expectSeconds(t, u, n, m.rules(api.Suffix, r.Next)...)
		if want := !m.has(api.Need, r.Next); u.Ends(n) != want {
			t.Errorf("Ends(%d) is not %v", n, want)
		}
	}
	expectNoRule(t, u, -1)
	expectNoRule(t, u, len(m.said.Rules))
}

func (m model) checkEntries(t *testing.T, u *tables.Tables) {
	t.Helper()
	for n, e := range m.entries {
		expectEntry(t, u, n, e.Word, e.Flags...)
		expectSuffixes(t, u, n, m.rules(api.Suffix, e.Flags)...)
		expectPrefixes(t, u, n, m.rules(api.Prefix, e.Flags)...)
		for which := range api.Specials {
			if want := m.has(which, e.Flags); u.Marked(n, which) != want {
				t.Errorf("Marked(%d, %d) is not %v", n, which, want)
			}
		}
	}
	expectNoEntry(t, u, -1)
	expectNoEntry(t, u, len(m.entries))
}

// blocks: headings with their groups, of which many go together.
var blocks = []string{
	"# x", "TRY a", "NEEDAFFIX N", "FORBIDDENWORD F", "KEEPCASE K", "COMPOUNDFLAG A", "NOSUGGEST B",
	"SFX A Y 0", "SFX A Y 1\nSFX A 0 s", "SFX A Y 2\nSFX A 0 s/B\nSFX A y ies/NB", "SFX B N 1\nSFX B 0 t/A", "SFX B Y 2\nSFX B 0 t/N\nSFX B 0 t",
	"PFX P Y 1\nPFX P 0 un", "PFX P N 0", "PFX A Y 2\nPFX A 0 a\nPFX A 0 b", "SFX N Y 1\nSFX N 0 n/N", "SFX A",
}

var fewWords = []string{"0", list("a", "b/A"), list("a/AB", "a/P", "a/ABP"), list("n/N", "f/FK", "x/NA", "y/PB", "z/KAB"), list("a b"), "x"}

func TestFewBlocksAgainstTheModel(t *testing.T) { // P13.1 to P13.4
	for _, words := range fewWords {
		checkTexts(t, "", words)
		for _, a := range blocks {
			checkTexts(t, a, words)
			for _, b := range blocks {
				checkTexts(t, a+"\n"+b, words)
				for _, c := range blocks {
					checkTexts(t, rows(a, b, c), words)
				}
			}
		}
	}
}

// affixText: a text of many classes and special flags, with flags of any of these; and the texts of sets.
func affixText(dice *rand.Rand) (text string, sets []string) {
	kind := dice.IntN(3)
	flags := []string{"A", "B", "C", "D", "E", "F", "G", "H", "I", "J", "K", "L"}
	for i, letter := range flags {
		flags[i] = []string{letter, letter + "x", fmt.Sprint(40000 - 7*int(letter[0]))}[kind]
	}
	dice.Shuffle(len(flags), func(i, j int) { flags[i], flags[j] = flags[j], flags[i] })
	between := []string{"", "", ","}[kind]
	var some []string
	for range 12 {
		var set []string
		for range 1 + dice.IntN(6) {
			set = append(set, flags[dice.IntN(len(flags))])
		}
		some = append(some, strings.Join(set, between))
	}
	lines := []string{"FLAG " + []string{"short", "long", "num"}[kind]}
	sets = some
	if dice.IntN(3) == 0 {
		lines, sets = append(lines, fmt.Sprintf("AF %d", len(some))), nil
		for n, set := range some {
			lines, sets = append(lines, "AF "+set), append(sets, fmt.Sprint(n+1))
		}
	}
	return rows(append(lines, headings(dice, flags, sets)...)...), sets
}

func headings(dice *rand.Rand, flags, sets []string) []string {
	var lines []string
	specials := []string{"NEEDAFFIX", "FORBIDDENWORD", "KEEPCASE", "COMPOUNDFLAG", "NOSUGGEST"}
	for _, flag := range flags {
		if i := dice.IntN(12); i < len(specials) {
			lines = append(lines, specials[i]+" "+flag)
			specials = slices.Delete(specials, i, i+1)
			continue
		}
		class, count := "SFX", dice.IntN(5)
		if dice.IntN(4) == 0 {
			class = "PFX"
		}
		lines = append(lines, fmt.Sprintf("%s %s %s %d", class, flag, []string{"Y", "N"}[dice.IntN(2)], count))
		for n := range count {
			add := fmt.Sprintf("x%d", n)
			if class == "SFX" && dice.IntN(9) == 0 {
				add += "/" + sets[dice.IntN(len(sets))]
			}
			lines = append(lines, fmt.Sprintf("%s %s 0 %s", class, flag, add))
		}
	}
	return lines
}

func TestManyClassesAgainstTheModel(t *testing.T) { // P13.1 to P13.4
	dice := rand.New(rand.NewPCG(13, 13))
	taken := 0
	for range 20000 {
		affixes, sets := affixText(dice)
		var entries []string
		for n := range dice.IntN(8) {
			entry := fmt.Sprintf("w%d", n/2)
			if dice.IntN(5) > 0 {
				entry += "/" + sets[dice.IntN(len(sets))]
			}
			entries = append(entries, entry)
		}
		if checkTexts(t, affixes, list(entries...)) {
			taken++
		}
	}
	if taken < 5000 {
		t.Errorf("only %d were taken", taken)
	}
}

func TestEachByteChangedAgainstTheModel(t *testing.T) { // P13.1 to P13.4
	affixes := "NEEDAFFIX N\nSFX B Y 2\nSFX B 0 s\nSFX B 0 er/AN\nPFX P Y 1\nPFX P 0 re\nSFX A Y 1\nSFX A 0 s\n"
	words := "3\ndo/BAP\nfit/N\na\n"
	for i := range len(affixes) {
		for b := range 256 {
			checkTexts(t, affixes[:i]+string([]byte{byte(b)})+affixes[i+1:], words)
		}
		checkTexts(t, affixes[:i], words)
	}
	for i := range len(words) {
		for b := range 256 {
			checkTexts(t, affixes, words[:i]+string([]byte{byte(b)})+words[i+1:])
		}
		checkTexts(t, affixes, words[:i])
	}
}
