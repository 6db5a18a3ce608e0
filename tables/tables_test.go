package tables_test

import (
	"fmt"
	"strings"
	"testing"

	"hornbook/aff"
	"hornbook/api"
	"hornbook/dic"
	"hornbook/tables"
)

func TestTheChaptersExample(t *testing.T) { // P13.1 to P13.4
	u := example(t)
	expectSuffixes(t, u, 0, 0, 1)
	expectPrefixes(t, u, 0, 2)
	expectSuffixes(t, u, 1)
	expectPrefixes(t, u, 1)
	expectSeconds(t, u, 1, 3)
	for _, rule := range []int{0, 2, 3} {
		expectSeconds(t, u, rule)
	}
	expectEnds(t, u, 0, 2, 3)
	expectMarks(t, u, 1, api.Need)
	expectMarks(t, u, 0)
	expectEntry(t, u, 0, "do", 'A', 'P')
	expectEntry(t, u, 1, "fit", 'N')
	expectRule(t, u, 1, api.Rule{Kind: api.Suffix, Flag: 'A', Cross: true, Add: "er", Cond: ".", Next: []api.Flag{'B', 'N'}})
}

func TestTheExampleOfTheWhole(t *testing.T) { // P13.1 to P13.4
	u := whole(t)
	expectRule(t, u, 1, api.Rule{Kind: api.Suffix, Flag: 'S', Cross: true, Strip: "y", Add: "ies", Cond: "[^aeiou]y"})
	expectRule(t, u, 3, api.Rule{Kind: api.Prefix, Flag: 'U', Cross: true, Add: "un", Cond: "."})
	for entry, suffixes := range [][]int{{0, 1}, {0, 1}, {0, 1, 2}, nil, nil, {2}} {
		expectSuffixes(t, u, entry, suffixes...)
	}
	for entry, prefixes := range [][]int{nil, nil, {3}, nil, nil, nil} {
		expectPrefixes(t, u, entry, prefixes...)
	}
	expectSeconds(t, u, 2, 0, 1)
	for _, rule := range []int{0, 1, 3} {
		expectSeconds(t, u, rule)
	}
	expectEnds(t, u, 0, 1, 2, 3)
	for entry, marks := range [][]int{nil, {api.Part}, nil, {api.Part}, {api.Forbid}, {api.Need}} {
		expectMarks(t, u, entry, marks...)
	}
}

func TestTheAffixFilesFaultComesFirst(t *testing.T) { // P13.1
	wrong := map[string]api.Fault{
		"x":                                 {File: api.AffFile, Line: 1, Code: api.ErrKey},
		"\n#\nSFX A Y\n":                    {File: api.AffFile, Line: 3, Code: api.ErrFields},
		"TRY a\nTRY a":                      {File: api.AffFile, Line: 2, Code: api.ErrTwice},
		"SFX A Y 2\nSFX A 0 s\n":            {File: api.AffFile, Line: 3, Code: api.ErrCount},
		"SFX A Y 1\nSFX A 0 s/B\n":          {File: api.AffFile, Line: 2, Code: api.ErrNext},
		strings.Repeat("#", api.MaxText+1):  {File: api.AffFile, Line: 0, Code: api.ErrLong},
		strings.Repeat("\n", api.MaxText+1): {File: api.AffFile, Line: 0, Code: api.ErrLong},
	}
	for affixes, want := range wrong {
		// Whatever the dictionary is: good, at fault earlier or later, too long, or none at all.
		for _, words := range []string{"0", "1\na\n", "", "y", "y\n", "1\na b", "1\na/A\n", "\n\n\n\nx", strings.Repeat("#", api.MaxText+1), "SFX A Y 0"} {
			expectFault(t, want, affixes, words)
		}
	}
}

func TestTheDictionarysFault(t *testing.T) { // P13.1
	for words, want := range map[string]api.Fault{
		"":                                 {File: api.DicFile, Line: 1, Code: api.ErrCount},
		"y":                                {File: api.DicFile, Line: 1, Code: api.ErrNumber},
		"1\n":                              {File: api.DicFile, Line: 2, Code: api.ErrCount},
		"1\na b":                           {File: api.DicFile, Line: 2, Code: api.ErrFields},
		"2\na\n#\n\\a":                     {File: api.DicFile, Line: 4, Code: api.ErrEscape},
		"2\na/A\n/A":                       {File: api.DicFile, Line: 3, Code: api.ErrWord},
		"1\n" + long(65):                   {File: api.DicFile, Line: 2, Code: api.ErrSize},
		"1\na/":                            {File: api.DicFile, Line: 2, Code: api.ErrFlag},
		"1\na/B":                           {File: api.DicFile, Line: 2, Code: api.ErrUnknown},
		"SFX A Y 0\n":                      {File: api.DicFile, Line: 1, Code: api.ErrFields},
		strings.Repeat("#", api.MaxText+1): {File: api.DicFile, Line: 0, Code: api.ErrLong},
	} {
		expectFault(t, want, "SFX A Y 0\n", words)
		expectFault(t, want, "NEEDAFFIX N\n\n\n# more\nSFX A Y 1\nSFX A 0 s/N\n", words)
	}
	// The first text is the affix file, the second one the dictionary.
	expectFault(t, api.Fault{File: api.AffFile, Line: 1, Code: api.ErrKey}, "1\na/A\n", "SFX A Y 0\n")
	// A dictionary's flags are those of its affix file.
	expectFault(t, api.Fault{File: api.DicFile, Line: 2, Code: api.ErrUnknown}, "", "1\na/A\n")
	expectFault(t, api.Fault{File: api.DicFile, Line: 2, Code: api.ErrFlag}, "FLAG num\nSFX 65 Y 0\n", "1\na/A\n")
	expectFault(t, api.Fault{File: api.DicFile, Line: 2, Code: api.ErrNumber}, "AF 1\nAF A\nSFX A Y 0\n", "1\na/A\n")
}

// TestReadAnswersWhatTheLayersBelowAnswer: the Fault of the one or of the other, of any two of many texts.
func TestReadAnswersWhatTheLayersBelowAnswer(t *testing.T) { // P13.1
	affixes := []string{"", "#", "x", "SFX A Y 0", "SFX A Y 1\nSFX A 0 s", "SFX A Y 1\nSFX B 0 s", "NEEDAFFIX A", "NEEDAFFIX", "FLAG long\nSFX AB N 0", "FLAG x", "AF 1\nAF A", "PFX A Y 0\nPFX A Y 0", "\n\nSET \x01", "SET x\nSET y",
		strings.Repeat("#", api.MaxText), strings.Repeat("#", api.MaxText+1)}
	words := []string{"", "0", "1", "x", "1\na", "1\na/A", "1\na/B", "1\na/AB", "1\na/1", "1\na/2", "1\na b", "1\n/", "2\na\nb/", "0\na", "\n\n#\n1\na\\", "1\n" + long(64), "1\n" + long(65),
		strings.Repeat("#", api.MaxText), strings.Repeat("#", api.MaxText+1)}
	for _, a := range affixes {
		for _, w := range words {
			file, want := aff.Read(a)
			if want == (api.Fault{}) {
				_, want = dic.Read(file, w)
			}
			u, got := tables.Read(a, w)
			if got != want || (u == nil) != (want != api.Fault{}) {
				t.Errorf("Read(%.40q, %.40q) = %v, %v; want %v", a, w, u, got, want)
			}
		}
	}
}

func TestTablesThatSayNothing(t *testing.T) { // P13.1 to P13.4
	for _, u := range []*tables.Tables{read(t, "", "0"), read(t, "# none\n", "\n0 # none\n"), read(t, strings.Repeat("\n", api.MaxText), "0"+strings.Repeat("\n", api.MaxText-1))} {
		for _, n := range places(0) {
			expectNothing(t, u, n)
		}
		expectEnds(t, u)
		if u.Len() != 0 || len(u.Entries()) != 0 || len(u.Affixes().Rules) != 0 {
			t.Errorf("%d entries, %v, %v", u.Len(), u.Entries(), u.Affixes())
		}
	}
}

// expectNothing: there is neither a rule nor an entry with that number.
func expectNothing(t *testing.T, u *tables.Tables, n int) {
	t.Helper()
	expectNoRule(t, u, n)
	expectNoEntry(t, u, n)
}

func expectNoRule(t *testing.T, u *tables.Tables, n int) {
	t.Helper()
	if r, ok := u.Rule(n); ok || !sameRule(r, api.Rule{}) {
		t.Errorf("Rule(%d) = %v, %v; want none", n, r, ok)
	}
	expectSeconds(t, u, n)
	if u.Ends(n) {
		t.Errorf("Ends(%d) of no rule", n)
	}
}

func expectNoEntry(t *testing.T, u *tables.Tables, n int) {
	t.Helper()
	if e, ok := u.Entry(n); ok || !sameEntry(e, api.Entry{}) {
		t.Errorf("Entry(%d) = %v, %v; want none", n, e, ok)
	}
	expectSuffixes(t, u, n)
	expectPrefixes(t, u, n)
	expectMarks(t, u, n)
}

func TestNumbersThatThereAreNot(t *testing.T) { // P13.2 to P13.4, rule 5
	// Of an entry or a rule that there is not, nothing is told, though 0 and the last have something of all.
	u := read(t, rows("NEEDAFFIX N", "FORBIDDENWORD F", "KEEPCASE K", "COMPOUNDFLAG C", "NOSUGGEST Q", "SFX A Y 2", "SFX A 0 s/AB", "SFX A 0 t", "PFX P Y 1", "PFX P 0 re", "SFX B Y 1", "SFX B 0 s/A"),
		list("a/APNFKCQ", "b", "c/ABPNFKCQ"))
	for _, n := range places(4) {
		if n < 0 || n >= 4 {
			expectNoRule(t, u, n)
		}
	}
	for _, n := range places(3) {
		if n < 0 || n >= 3 {
			expectNoEntry(t, u, n)
		}
	}
	expectRule(t, u, 0, api.Rule{Kind: api.Suffix, Flag: 'A', Cross: true, Add: "s", Cond: ".", Next: []api.Flag{'A', 'B'}})
	expectRule(t, u, 3, api.Rule{Kind: api.Suffix, Flag: 'B', Cross: true, Add: "s", Cond: ".", Next: []api.Flag{'A'}})
	expectSeconds(t, u, 0, 0, 1, 3)
	expectSeconds(t, u, 3, 0, 1)
	expectEntry(t, u, 0, "a", 'A', 'C', 'F', 'K', 'N', 'P', 'Q')
	expectEntry(t, u, 2, "c", 'A', 'B', 'C', 'F', 'K', 'N', 'P', 'Q')
	expectSuffixes(t, u, 2, 0, 1, 3)
	expectPrefixes(t, u, 2, 2)
	expectMarks(t, u, 2, api.Need, api.Forbid, api.Keep, api.Part, api.Quiet)
}

func TestOnlyOneRuleAndOneEntry(t *testing.T) { // P13.2
	u := read(t, "PFX P N 1\nPFX P x 0 [xy]\n", "1\nin\\/out\n")
	expectRule(t, u, 0, api.Rule{Kind: api.Prefix, Flag: 'P', Strip: "x", Cond: "[xy]"})
	expectEntry(t, u, 0, "in/out")
	for _, n := range []int{-1, 1, 2} {
		expectNothing(t, u, n)
	}
}

func TestRulesInTheirOrder(t *testing.T) { // P13.2
	u := read(t, rows("REP 1", "REP a b", "SFX z N 2", "SFX z 0 z0", "SFX z y z1/a [^s]y", "PFX m Y 0", "PFX p Y 1", "PFX p x p2", "SFX a Y 2", "SFX a 0 0 .", "SFX a 0 a4/za"), "0")
	for n, want := range []api.Rule{
		{Kind: api.Suffix, Flag: 'z', Add: "z0", Cond: "."},
		{Kind: api.Suffix, Flag: 'z', Strip: "y", Add: "z1", Cond: "[^s]y", Next: []api.Flag{'a'}},
		{Kind: api.Prefix, Flag: 'p', Cross: true, Strip: "x", Add: "p2", Cond: "."},
		{Kind: api.Suffix, Flag: 'a', Cross: true, Cond: "."},
		{Kind: api.Suffix, Flag: 'a', Cross: true, Add: "a4", Cond: ".", Next: []api.Flag{'a', 'z'}},
	} {
		expectRule(t, u, n, want)
	}
	expectNoRule(t, u, 5)
}

func TestEntriesInTheirOrder(t *testing.T) { // P13.2
	u := read(t, rows("KEEPCASE K", "SFX A Y 0", "PFX P Y 0"), rows("# words", "7", "zebra/PA", "", "a", "a/A", "Zebra/KK", `\/\#`, "a", "b/KPAPK # x"))
	expectEntry(t, u, 0, "zebra", 'A', 'P')
	expectEntry(t, u, 1, "a")
	expectEntry(t, u, 2, "a", 'A')
	expectEntry(t, u, 3, "Zebra", 'K')
	expectEntry(t, u, 4, "/#")
	expectEntry(t, u, 5, "a")
	expectEntry(t, u, 6, "b", 'A', 'K', 'P')
	expectNoEntry(t, u, 7)
}

func TestTheMostEntriesAndRules(t *testing.T) { // P13.2, P13.3
	affixes := []string{"SFX A Y 1024"}
	for n := range api.MaxRules {
		affixes = append(affixes, fmt.Sprintf("SFX A 0 s%d", n))
	}
	var words []string
	for n := range api.MaxEntries {
		words = append(words, fmt.Sprintf("%x", n))
	}
	words[api.MaxEntries-1] += "/A"
	u := read(t, rows(affixes...), list(words...))
	for _, n := range []int{0, 1, api.MaxRules - 2, api.MaxRules - 1} {
		expectRule(t, u, n, api.Rule{Kind: api.Suffix, Flag: 'A', Cross: true, Add: fmt.Sprintf("s%d", n), Cond: "."})
	}
	expectNoRule(t, u, api.MaxRules)
	for n := range api.MaxEntries - 1 {
		expectEntry(t, u, n, fmt.Sprintf("%x", n))
	}
	last := api.MaxEntries - 1
	expectEntry(t, u, last, "1fff", 'A')
	expectNoEntry(t, u, api.MaxEntries)
	expectSuffixes(t, u, last-1)
	all := make([]int, api.MaxRules)
	for n := range all {
		all[n] = n
	}
	expectSuffixes(t, u, last, all...)
}

func TestTheCallsOfANilTables(t *testing.T) { // P13.5, P1
	var u *tables.Tables
	for _, n := range places(3) {
		expectNothing(t, u, n)
	}
}
