package printer_test

import (
	"fmt"
	"math/rand/v2"
	"slices"
	"strings"
	"testing"

	"hornbook/api"
	"hornbook/printer"
	"hornbook/tables"
)

// Here both texts are held against a plain second writing of the chapter's
// words, that goes down the chapter's list and asks no layer below but for what
// the tables say.

func modelAff(a api.Affixes) string {
	text := fmt.Sprintln("FLAG", strings.Fields("- short long num")[a.Kind])
	if a.Charset != "" {
		text += fmt.Sprintln("SET", a.Charset)
	}
	if a.Try != "" {
		text += fmt.Sprintln("TRY", a.Try)
	}
	for i, name := range strings.Fields("NEEDAFFIX FORBIDDENWORD KEEPCASE COMPOUNDFLAG NOSUGGEST") {
		if a.Specials[i] > 0 {
			text += fmt.Sprintln(name, modelSet(a.Kind, a.Specials[i:i+1]))
		}
	}
	text += fmt.Sprintln("COMPOUNDMIN", a.Least)
	for i, rep := range a.Reps {
		if i == 0 {
			text += fmt.Sprintln("REP", len(a.Reps))
		}
		text += fmt.Sprintln("REP", modelEscaped(rep.From), modelNone(rep.To))
	}
	for i, alias := range a.Aliases {
		if i == 0 {
			text += fmt.Sprintln("AF", len(a.Aliases))
		}
		text += fmt.Sprintln("AF", modelSet(a.Kind, alias))
	}
	for _, c := range a.Classes {
		name := map[int]string{1: "PFX", 2: "SFX"}[c.Kind] + " " + modelSet(a.Kind, []api.Flag{c.Flag})
		text += fmt.Sprintln(name, map[bool]string{true: "Y", false: "N"}[c.Cross], c.Count)
		for n := c.First; n < c.First+c.Count; n++ {
			r := a.Rules[n]
			cond := r.Cond
			if cond[0] == '#' {
				cond = strings.Replace(cond, "#", "[#]", 1)
			}
			text += fmt.Sprintln(name, modelNone(r.Strip), modelNone(r.Add)+modelSlash(a, r.Next), cond)
		}
	}
	return text
}

func modelDic(a api.Affixes, entries []api.Entry) string {
	text := fmt.Sprintln(len(entries))
	for _, e := range entries {
		text += modelEscaped(e.Word) + modelSlash(a, e.Flags) + "\n"
	}
	return text
}

func modelEscaped(s string) string {
	return strings.NewReplacer(`\`, `\\`, `/`, `\/`, `#`, `\#`).Replace(s)
}

func modelNone(s string) string {
	if len(s) == 0 {
		return "0"
	}
	return modelEscaped(s)
}

func modelSlash(a api.Affixes, set []api.Flag) string {
	if len(set) == 0 {
		return ""
	}
	for i, alias := range a.Aliases {
		if fmt.Sprint(alias) == fmt.Sprint(set) {
			return fmt.Sprint("/", i+1)
		}
	}
	return "/" + modelSet(a.Kind, set)
}

func modelSet(kind int, set []api.Flag) string {
	var flags []string
	for _, f := range set {
		flags = append(flags, map[int]string{1: string(rune(f)), 2: string(rune(f>>8)) + string(rune(f%256)), 3: fmt.Sprint(f)}[kind])
	}
	return strings.Join(flags, map[int]string{3: ","}[kind])
}

// checkTables: both texts are the model's, or too long; if neither is, they are taken again.
func checkTables(t *testing.T, u *tables.Tables) {
	t.Helper()
	a, d := modelAff(u.Affixes()), modelDic(u.Affixes(), u.Entries())
	if len(a) > api.MaxText {
		expectNoAff(t, u, api.ErrLong)
	} else {
		expectAff(t, u, a)
	}
	if len(d) > api.MaxText {
		expectNoDic(t, u, api.ErrLong)
	} else {
		expectDic(t, u, d)
	}
	if max(len(a), len(d)) <= api.MaxText {
		expectAgain(t, u)
	}
	if t.Failed() {
		t.FailNow()
	}
}

// checkPair: what Same answers of both.
func checkPair(t *testing.T, u, v *tables.Tables) {
	t.Helper()
	if sayTheSame(u, v) {
		expectSame(t, u, v)
	} else {
		expectUnlike(t, u, v)
	}
	expectTextsToo(t, u, v)
	if t.Failed() {
		t.FailNow()
	}
}

// blocks: headings with their groups, of which many go together.
var blocks = []string{
	"# x", "SET a#", "TRY noon", "NEEDAFFIX N", "FORBIDDENWORD F", "KEEPCASE A", "COMPOUNDMIN 3", "COMPOUNDMIN 12",
	"REP 1\nREP a# 0", "REP 2\nREP 0 0\nREP a \\/\\\\", "AF 2\nAF BA\nAF N", "AF 3\nAF A\nAF AA\nAF BA",
	"SFX A Y 0", "SFX A N 0", "SFX A Y 1\nSFX A 0 s [#]", "SFX A Y 2\nSFX A 0 s/B #\nSFX A y\\# ies/NB .[a]", "SFX A Y 1\nSFX A 0 0/1", "SFX B N 1\nSFX B 0 t#/3 [#][ba]",
	"PFX P Y 1\nPFX P 0 un", "PFX P N 0", "PFX A Y 2\nPFX A a 0\nPFX A 0 b a#", "SFX B Y 0", "SFX N Y 0",
}

var fewWords = []string{"0", list("a", "b#/A"), list("a/BA", "a/P"), list("a/P", "a"), list("n/N", "f/F"), list("x/1", "y/2"), list("x/3", "x")}

// taken: the tables of all texts of up to three blocks that are taken.
func taken() []*tables.Tables {
	var all []*tables.Tables
	try := func(affixes string) {
		for _, words := range fewWords {
			if u, _ := tables.Read(affixes, words); u != nil {
				all = append(all, u)
			}
		}
	}
	for _, a := range blocks {
		try(a)
		for _, b := range blocks {
			try(a + "\n" + b)
			for _, c := range blocks {
				try(rows(a, b, c))
			}
		}
	}
	return all
}

func TestFewBlocksAgainstTheModel(t *testing.T) { // P14.1 to P14.4
	all := taken()
	if len(all) < 5000 {
		t.Errorf("only %d texts are taken", len(all))
	}
	for _, u := range all {
		checkTables(t, u)
	}
	dice := rand.New(rand.NewPCG(14, 14))
	for range 50000 {
		checkPair(t, all[dice.IntN(len(all))], all[dice.IntN(len(all))])
	}
}

// someText: a text of so many bytes at most that mean something somewhere; escaped as a field wants it, or as it needn't be.
func someText(dice *rand.Rand, most int) string {
	field := ""
	for range 1 + dice.IntN(most) {
		piece := []string{"a", "b", "y", "0", `\#`, `\/`, `\\`, "#", "[", "]", "^", ".", "-", ",", "\xff", "1"}[dice.IntN(16)]
		if field == "" && piece == "#" {
			piece = `\#`
		}
		field += piece
	}
	return field
}

func someCondition(dice *rand.Rand) string {
	items := []string{"#", "[#]", "[##]", "[#a]", "[^#]", "a", "[ba]", "[^ba]", ".", "]", "^", "[^^]", "[a^]", "[.]", "[[]", "0", "/", `\`, "\xff"}
	text := ""
	for range 1 + dice.IntN(4) {
		item := items[dice.IntN(len(items))]
		if text == "" && item == "#" {
			item = "[#]"
		}
		text += item
	}
	return text
}

// manyTables: tables of any texts.
func manyTables(dice *rand.Rand) (*tables.Tables, bool) {
	kind := dice.IntN(3)
	flags := strings.Fields([]string{"b A ~ 0 z", "bA Ab ~! 0b zz", "7 300 65535 10 8"}[kind])
	between := []string{"", "", ","}[kind]
	var sets []string
	for range 6 {
		set := []string{}
		for range 1 + dice.IntN(4) {
			set = append(set, flags[dice.IntN(len(flags))])
		}
		sets = append(sets, strings.Join(set, between))
	}
	lines := []string{"FLAG " + strings.Fields("short long num")[kind]}
	if dice.IntN(2) == 0 {
		lines = append(lines, "TRY "+strings.TrimLeft(someText(dice, 5), "#"), fmt.Sprintf("COMPOUNDMIN %d", 1+dice.IntN(64)))
	}
	if n := dice.IntN(4); n > 0 {
		lines = append(lines, fmt.Sprintf("REP %d", n))
		for range n {
			lines = append(lines, "REP "+someText(dice, 3)+" "+[]string{"0", someText(dice, 3)}[dice.IntN(2)])
		}
	}
	if dice.IntN(2) == 0 {
		lines = append(lines, "AF 6")
		for i, set := range sets {
			lines = append(lines, "AF "+set)
			sets[i] = fmt.Sprint(i + 1)
		}
	}
	lines = append(lines, someClasses(dice, flags, sets)...)
	var entries []string
	for range dice.IntN(6) {
		entry := someText(dice, 4)
		if dice.IntN(2) == 0 {
			entry += "/" + sets[dice.IntN(6)]
		}
		entries = append(entries, entry)
	}
	u, fault := tables.Read(rows(lines...), list(entries...))
	return u, fault == api.Fault{}
}

// someClasses: each of the flags is a special one or a class.
func someClasses(dice *rand.Rand, flags, sets []string) []string {
	var lines []string
	dice.Shuffle(len(flags), func(i, j int) { flags[i], flags[j] = flags[j], flags[i] })
	specials := strings.Fields("NEEDAFFIX FORBIDDENWORD KEEPCASE COMPOUNDFLAG NOSUGGEST")
	for i, flag := range flags {
		if dice.IntN(4) == 0 {
			lines = append(lines, specials[i]+" "+flag)
			continue
		}
		count := dice.IntN(4)
		name := []string{"SFX ", "SFX ", "SFX ", "PFX "}[dice.IntN(4)] + flag
		lines = append(lines, fmt.Sprint(name, []string{" Y ", " N "}[dice.IntN(2)], count))
		for range count {
			rule := name + " " + []string{"0", someText(dice, 4)}[dice.IntN(2)] + " " + []string{"0", someText(dice, 4)}[dice.IntN(2)]
			if name[0] == 'S' && dice.IntN(4) == 0 {
				rule += "/" + sets[dice.IntN(6)]
			}
			if dice.IntN(3) > 0 {
				rule += " " + someCondition(dice)
			}
			lines = append(lines, rule)
		}
	}
	return lines
}

func TestManyTextsAgainstTheModel(t *testing.T) { // P14.1 to P14.4
	dice := rand.New(rand.NewPCG(14, 41))
	var some []*tables.Tables
	for range 15000 {
		if u, ok := manyTables(dice); ok {
			checkTables(t, u)
			some = append(some, u)
		}
	}
	if len(some) < 5000 {
		t.Errorf("only %d are taken", len(some))
	}
	for range 20000 {
		checkPair(t, some[dice.IntN(len(some))], some[dice.IntN(len(some))])
	}
}

func TestEachByteChangedAgainstTheModel(t *testing.T) { // P14.1 to P14.4
	affixes, words := richFiles()
	whole := rich(t)
	check := func(affixes, words string) {
		if u, _ := tables.Read(affixes, words); u != nil {
			checkTables(t, u)
			checkPair(t, whole, u)
		}
	}
	others := slices.Concat([]byte(" \n\r\t0123479YN/\\#,.[]^aAbxy"), []byte{0, 31, 127, 128, 255})
	for i := range len(affixes) {
		check(affixes[:i]+affixes[i+1:], words)
		for _, b := range others {
			check(affixes[:i]+string([]byte{b})+affixes[i+1:], words)
			check(affixes[:i]+string([]byte{b})+affixes[i:], words)
		}
	}
	for i := range len(words) {
		check(affixes, words[:i]+words[i+1:])
		for b := range 256 {
			check(affixes, words[:i]+string([]byte{byte(b)})+words[i+1:])
		}
		for _, b := range others {
			check(affixes, words[:i]+string([]byte{b})+words[i:])
		}
	}
}

func TestTheModelsTextsAreThoseOfTheTables(t *testing.T) { // P14.4
	// Two tables that say the same have the same texts, however they came about: read of others, or of their own texts again and again.
	dice := rand.New(rand.NewPCG(41, 14))
	for range 2000 {
		u, ok := manyTables(dice)
		if !ok {
			continue
		}
		a, _ := printer.Aff(u)
		d, _ := printer.Dic(u)
		// Remarks, blanks and empty lines tell nothing, nor do other ends of lines.
		noise := strings.NewReplacer(" ", " \t ", "\n", " # x y\r\n\n#\n  \n")
		expectSame(t, u, read(t, noise.Replace(a), noise.Replace(d)))
		expectAgain(t, read(t, noise.Replace(a), noise.Replace(d)))
	}
}
