package derive_test

import (
	"fmt"
	"math/rand/v2"
	"slices"
	"strings"
	"testing"

	"hornbook/api"
	"hornbook/derive"
	"hornbook/rules"
	"hornbook/tables"
)

// Here the calls are held against a plain second writing of the chapter's
// words: it tries all numbers of entries and rules in their order, and asks of
// each four whether they are a derivation.

type model struct {
	said    api.Affixes
	entries []api.Entry
}

// rule: the one with that number, if it is of the kind and its flag is one of these.
func (m model) rule(n, kind int, flags []api.Flag) (api.Rule, bool) {
	if n < 0 || n >= len(m.said.Rules) {
		return api.Rule{}, false
	}
	r := m.said.Rules[n]
	return r, r.Kind == kind && slices.Contains(flags, r.Flag)
}

func (m model) needs(flags []api.Flag) bool {
	need := m.said.Specials[api.Need]
	return need != 0 && slices.Contains(flags, need)
}

// suffixes: the rules of the chain; false, if these numbers are none.
func (m model) suffixes(e api.Entry, first, second int) ([]api.Rule, bool) {
	if first == -1 {
		return nil, second == -1
	}
	one, ok := m.rule(first, api.Suffix, e.Flags)
	if !ok || second == -1 {
		return []api.Rule{one}, ok
	}
	two, ok := m.rule(second, api.Suffix, one.Next)
	return []api.Rule{one, two}, ok
}

// surface: that of the derivation; false, if there is none such.
func (m model) surface(entry, first, second, prefix int) (string, bool) {
	e := m.entries[entry]
	chain, ok := m.suffixes(e, first, second)
	if !ok || len(chain) > 0 && m.needs(chain[len(chain)-1].Next) {
		return "", false
	}
	if prefix == -1 {
		if len(chain) == 0 && m.needs(e.Flags) {
			return "", false
		}
		return rules.Chain(e.Word, chain...)
	}
	p, ok := m.rule(prefix, api.Prefix, e.Flags)
	if !ok || len(chain) > 0 && slices.ContainsFunc(append(chain, p), func(r api.Rule) bool { return !r.Cross }) {
		return "", false
	}
	return rules.Chain(e.Word, append(chain, p)...)
}

// derivations: those of the entry; Make is asked for each of the fours.
func (m model) derivations(t *testing.T, u *tables.Tables, entry int) (all []api.Derived) {
	t.Helper()
	for first := -1; first < len(m.said.Rules); first++ {
		for second := -1; second < len(m.said.Rules); second++ {
			for prefix := -1; prefix < len(m.said.Rules); prefix++ {
				surface, is := m.surface(entry, first, second, prefix)
				if is {
					all = append(all, told(surface, entry, first, second, prefix))
				} else {
					surface = ""
				}
				if got, ok := derive.Make(u, told("x", entry, first, second, prefix)); got != surface || ok != is {
					t.Errorf("Make(%d, %d, %d, %d) = %q, %v; want %q, %v", entry, first, second, prefix, got, ok, surface, is)
				}
			}
		}
	}
	return all
}

// check: what all calls answer of these tables, and how many derivations have two rules, and a prefix rule ahead.
func check(t *testing.T, affixes, words string) (long int) {
	t.Helper()
	u := read(t, affixes, words)
	m := model{u.Affixes(), u.Entries()}
	var all []api.Derived
	for entry := range m.entries {
		want := m.derivations(t, u, entry)
		all = append(all, want...)
		if got := gather(derive.Each(u, entry)); !slices.Equal(got, want) {
			t.Errorf("Each(%d) gives\n%v; want\n%v", entry, got, want)
		}
		for _, most := range []int{1, len(want) - 1, len(want), len(want) + 1} {
			expectList(t, u, entry, most, want[:max(min(most, len(want)), 0)]...)
		}
	}
	if got := gather(derive.All(u)); !slices.Equal(got, all) {
		t.Errorf("All gives\n%v; want\n%v", got, all)
	}
	m.checkMeasure(t, u, all)
	m.checkFeed(t, u, all)
	if t.Failed() {
		t.Fatalf("of\n%.2000s\n%.2000s", affixes, words)
	}
	for _, d := range all {
		if d.Second >= 0 && d.Prefix >= 0 {
			long++
		}
	}
	return long
}

func (m model) checkMeasure(t *testing.T, u *tables.Tables, all []api.Derived) {
	t.Helper()
	bytes := 0
	for _, d := range all {
		bytes += len(d.Surface)
	}
	expectMeasure(t, u, bytes, len(all), bytes, true)
	expectMeasure(t, u, bytes+1, len(all), bytes, true)
	expectMeasure(t, u, bytes-1, 0, 0, false)
}

func (m model) checkFeed(t *testing.T, u *tables.Tables, all []api.Derived) {
	t.Helper()
	for _, c := range []struct{ with, without []int }{{}, {nil, []int{api.Forbid}}, {[]int{api.Need}, nil}, {[]int{api.Forbid}, []int{api.Need}}} {
		var want []string
		for _, d := range all {
			if m.marked(d.Entry, c.with) == len(c.with) && m.marked(d.Entry, c.without) == 0 {
				want = append(want, d.Surface)
			}
		}
		if got := fed(t, u, c.with, c.without); !slices.Equal(got, want) {
			t.Errorf("Feed(%v, %v) hands on\n%q; want\n%q", c.with, c.without, got, want)
		}
	}
}

// marked: how many of these marks the entry has.
func (m model) marked(entry int, marks []int) (count int) {
	for _, which := range marks {
		special := m.said.Specials[which]
		if special != 0 && slices.Contains(m.entries[entry].Flags, special) {
			count++
		}
	}
	return count
}

// blocks: headings with their groups, of which many go together.
var blocks = []string{
	"# x", "NEEDAFFIX N", "FORBIDDENWORD F", "SFX N Y 1\nSFX N 0 n/N",
	"SFX A Y 1\nSFX A 0 a", "SFX A Y 2\nSFX A 0 a/B\nSFX A b c/NB", "SFX A N 2\nSFX A a 0/A\nSFX A 0 a/AN",
	"SFX B Y 1\nSFX B 0 b/N", "SFX B N 2\nSFX B a b/A\nSFX B 0 0 [^a]a", "SFX B Y 2\nSFX B 0 a b\nSFX B ab b/B",
	"PFX P Y 1\nPFX P 0 p", "PFX P N 2\nPFX P a q\nPFX P 0 r ab", "PFX Q Y 2\nPFX Q ab b\nPFX Q 0 0 .[^a]", "PFX Q Y 1\nPFX Q aa 0 a.b",
}

// entriesOf: entries with all flags of the file, with all but one, with one, and with none.
func entriesOf(said api.Affixes) []string {
	all := ""
	for _, flag := range said.Specials {
		if flag != 0 {
			all += string([]byte{byte(flag)})
		}
	}
	for _, c := range said.Classes {
		all += string([]byte{byte(c.Flag)})
	}
	if all == "" {
		return []string{"a", "ab"}
	}
	sets := []string{all}
	for i := range all {
		sets = append(sets, all[i:i+1])
		if len(all) > 2 {
			sets = append(sets, all[:i]+all[i+1:])
		}
	}
	entries := []string{"a", "ab"}
	for _, set := range sets {
		entries = append(entries, "a/"+set, "ab/"+set, "aab/"+set)
	}
	return entries
}

func TestFewBlocksAgainstTheModel(t *testing.T) { // P16.1 to P16.5
	taken, long := 0, 0
	for _, a := range blocks {
		for _, b := range blocks {
			for _, c := range blocks {
				affixes := rows(a, b, c)
				u, fault := tables.Read(affixes, "0")
				if fault == (api.Fault{}) {
					taken, long = taken+1, long+check(t, affixes, list(entriesOf(u.Affixes())...))
				}
			}
		}
	}
	if taken < 500 || long < 500 {
		t.Errorf("only %d were taken, with %d derivations of three rules", taken, long)
	}
}

// affixText: a text of a few classes, whose pieces and conditions meet.
func affixText(dice *rand.Rand) string {
	lines := []string{}
	for i, special := range []string{"NEEDAFFIX N", "FORBIDDENWORD F"} {
		if dice.IntN(4) > i {
			lines = append(lines, special)
		}
	}
	heads := []string{"SFX A", "SFX B", "SFX C", "PFX P", "PFX Q"}
	dice.Shuffle(len(heads), func(i, j int) { heads[i], heads[j] = heads[j], heads[i] })
	for _, head := range heads {
		count := dice.IntN(2) + dice.IntN(3)
		lines = append(lines, fmt.Sprintf("%s %s %d", head, pick(dice, "Y", "Y", "Y", "N"), count))
		for range count {
			rule := head + " " + pick(dice, "0", "0", "0", "0", "a", "b", "ab") + " " + pick(dice, "0", "a", "b", "ba", "aab")
			if head[0] == 'S' {
				rule += pick(dice, "", "/A", "/B", "/BC", "/ABN", "/N", "/CN", "/ABC")
			}
			lines = append(lines, rule+" "+pick(dice, ".", ".", ".", "a", "b", "[^a]", "[ab]b", "a.", "[^b]..", "bab"))
		}
	}
	return rows(lines...)
}

func pick(dice *rand.Rand, from ...string) string { return from[dice.IntN(len(from))] }

func TestManyTablesAgainstTheModel(t *testing.T) { // P16.1 to P16.5
	dice := rand.New(rand.NewPCG(16, 16))
	taken, long := 0, 0
	for range 3000 {
		affixes := affixText(dice)
		said, fault := tables.Read(affixes, "0")
		if fault != (api.Fault{}) {
			continue
		}
		var entries []string
		for range dice.IntN(5) {
			set := "ABCPQ"
			for _, flag := range []string{"N", "F"} {
				if defined(said, flag[0]) && dice.IntN(3) == 0 {
					set += flag
				}
			}
			drop := dice.IntN(len(set))
			entries = append(entries, pick(dice, "a", "b", "ab", "ba", "aab", "bab", "abab")+"/"+set[:drop]+pick(dice, set[drop:], set[drop+1:]+"A"))
		}
		taken, long = taken+1, long+check(t, affixes, list(entries...))
	}
	if taken < 1500 || long < 2000 {
		t.Errorf("only %d were taken, with %d derivations of three rules", taken, long)
	}
}

// defined: does a special flag have this letter?
func defined(u *tables.Tables, letter byte) bool {
	specials := u.Affixes().Specials
	return slices.Contains(specials[:], api.Flag(letter))
}

// TestOfAnyBytes: words and pieces of bytes that stand for nothing, told by what is added.
func TestOfAnyBytes(t *testing.T) { // P16.1
	dice := rand.New(rand.NewPCG(61, 61))
	for range 300 {
		word, add, ahead := bytesOf(dice), bytesOf(dice), bytesOf(dice)
		u := read(t, "SFX S Y 1\nSFX S 0 "+add+"\nPFX P Y 1\nPFX P 0 "+ahead+"\n", list(word+"/SP"))
		expectTexts(t, u, 0, strings.Join([]string{word, ahead + word, word + add, ahead + word + add}, " "))
	}
}

// bytesOf: word bytes that a field takes as they are.
func bytesOf(dice *rand.Rand) string {
	var bytes []byte
	for range 1 + dice.IntN(8) {
		bytes = append(bytes, []byte{'!', '1', 'A', 'z', '~', 0x80, 0xa0, 0xc3, 0xff}[dice.IntN(9)])
	}
	return string(bytes)
}
