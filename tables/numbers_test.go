package tables_test

import (
	"fmt"
	"strings"
	"testing"

	"hornbook/api"
)

// fourClasses: two of each kind, their rules numbered 0 and 1 (b, suffixes), 2 (p, prefix), 3 to 5 (a, suffixes), 6 and 7 (o, prefixes);
// between them classes of either kind without rules, e and q.
const fourClasses = "NEEDAFFIX N\nKEEPCASE K\nSFX b Y 2\nSFX b 0 b0\nSFX b 0 b1\nSFX e Y 0\nPFX p Y 1\nPFX p 0 p2\nSFX a N 3\nSFX a 0 a3\nSFX a 0 a4\nSFX a 0 a5\nPFX q Y 0\nPFX o N 2\nPFX o 0 o6\nPFX o 0 o7\n"

func TestTheRulesOfAnEntrysFlags(t *testing.T) { // P13.3
	for flags, want := range map[string]struct{ suffixes, prefixes []int }{
		"":    {},
		"/b":  {suffixes: []int{0, 1}},
		"/a":  {suffixes: []int{3, 4, 5}},
		"/ab": {suffixes: []int{0, 1, 3, 4, 5}}, "/ba": {suffixes: []int{0, 1, 3, 4, 5}},
		"/p":  {prefixes: []int{2}},
		"/o":  {prefixes: []int{6, 7}},
		"/op": {prefixes: []int{2, 6, 7}}, "/po": {prefixes: []int{2, 6, 7}},
		"/ap":       {suffixes: []int{3, 4, 5}, prefixes: []int{2}},
		"/bo":       {suffixes: []int{0, 1}, prefixes: []int{6, 7}},
		"/abop":     {suffixes: []int{0, 1, 3, 4, 5}, prefixes: []int{2, 6, 7}},
		"/pobaabop": {suffixes: []int{0, 1, 3, 4, 5}, prefixes: []int{2, 6, 7}},
		"/N":        {}, "/K": {}, "/NK": {},
		"/NaK": {suffixes: []int{3, 4, 5}},
		"/NpK": {prefixes: []int{2}},
		"/e":   {}, "/q": {}, "/eq": {},
		"/eb":       {suffixes: []int{0, 1}},
		"/qeoa":     {suffixes: []int{3, 4, 5}, prefixes: []int{6, 7}},
		"/KNqeopab": {suffixes: []int{0, 1, 3, 4, 5}, prefixes: []int{2, 6, 7}},
	} {
		// It is the entry's own flags that count, not those of its neighbours or of others with the same word.
		u := read(t, fourClasses, list("do/abopNK", "do"+flags, "do", "x/b"))
		for range 2 {
			expectSuffixes(t, u, 1, want.suffixes...)
			expectPrefixes(t, u, 1, want.prefixes...)
		}
		expectSuffixes(t, u, 0, 0, 1, 3, 4, 5)
		expectSuffixes(t, u, 2)
		expectPrefixes(t, u, 2)
		expectSuffixes(t, u, 3, 0, 1)
	}
}

func TestRulesAreNamedWhetherTheyFitOrNot(t *testing.T) { // P13.3
	// Neither the condition nor Strip nor Cross counts, nor that a rule does nothing.
	u := read(t, rows("SFX S N 4", "SFX S 0 s [^sy]", "SFX S y ies [^aeiou]y", "SFX S 0 0", "SFX S zzzzzz 0 zzzzzz", "PFX P N 2", "PFX P 0 re d", "PFX P qq 0"), list("play/SP", "a/PS"))
	for entry := range 2 {
		expectSuffixes(t, u, entry, 0, 1, 2, 3)
		expectPrefixes(t, u, entry, 4, 5)
	}
}

func TestRulesThatAreAlikeAreAllNamed(t *testing.T) { // P13.3
	u := read(t, rows("SFX S Y 3", "SFX S 0 s", "SFX S 0 s", "SFX S 0 s/S"), list("a/S"))
	expectSuffixes(t, u, 0, 0, 1, 2)
	expectSeconds(t, u, 2, 0, 1, 2)
}

func TestManyClassesWhoseFlagsFall(t *testing.T) { // P13.3
	// The rules rise though the flags of their classes fall.
	text := []string{"FLAG num"}
	var flags []string
	var suffixes, prefixes []int
	for n := range 60 {
		kind := "SFX"
		if n%3 == 0 {
			kind = "PFX"
		}
		flag := fmt.Sprint(60000 - 1000*n)
		flags = append(flags, flag)
		text = append(text, kind+" "+flag+" Y 2", kind+" "+flag+" 0 x", kind+" "+flag+" 0 y")
		if kind == "PFX" {
			prefixes = append(prefixes, 2*n, 2*n+1)
		} else {
			suffixes = append(suffixes, 2*n, 2*n+1)
		}
	}
	u := read(t, rows(text...), list("a/"+strings.Join(flags, ",")))
	expectSuffixes(t, u, 0, suffixes...)
	expectPrefixes(t, u, 0, prefixes...)
}

func TestSeconds(t *testing.T) { // P13.3
	// Behind the slash: the flag of a class that stands behind the rule, ahead of it, its own, NEEDAFFIX alone, none at all.
	u := read(t, rows("NEEDAFFIX N",
		"SFX c Y 3", "SFX c 0 c0/a", "SFX c 0 c1/c", "SFX c 0 c2",
		"SFX e Y 0",
		"SFX b Y 4", "SFX b 0 b3/c", "SFX b 0 b4/N", "SFX b 0 b5/abc", "SFX b 0 b6/e",
		"PFX p Y 1", "PFX p 0 p7",
		"SFX a Y 3", "SFX a 0 a8/bN", "SFX a 0 a9/eNb", "SFX a 0 a10/cabacab"),
		list("x/p"))
	for rule, want := range [][]int{{8, 9, 10}, {0, 1, 2}, nil, {0, 1, 2}, nil, {0, 1, 2, 3, 4, 5, 6, 8, 9, 10}, nil, nil, {3, 4, 5, 6}, {3, 4, 5, 6}, {0, 1, 2, 3, 4, 5, 6, 8, 9, 10}} {
		for range 2 {
			expectSeconds(t, u, rule, want...)
		}
	}
	expectEnds(t, u, 0, 1, 2, 3, 5, 6, 7, 10)
	for _, n := range []int{-1, 11, 12} {
		expectNoRule(t, u, n)
	}
}

func TestTwoClassesThatGoOnToOneAnother(t *testing.T) { // P13.3
	for _, order := range [][2]string{{"A", "B"}, {"B", "A"}} {
		first, second := order[0], order[1]
		u := read(t, rows("SFX "+first+" Y 2", "SFX "+first+" 0 x/"+second, "SFX "+first+" 0 y", "SFX "+second+" N 1", "SFX "+second+" 0 z/"+first), list("a/"+first, "b/"+second))
		expectSeconds(t, u, 0, 2)
		expectSeconds(t, u, 1)
		expectSeconds(t, u, 2, 0, 1)
		expectSuffixes(t, u, 0, 0, 1)
		expectSuffixes(t, u, 1, 2)
	}
}

func TestSecondsThroughAliases(t *testing.T) { // P13.3, P13.4
	u := read(t, rows("FLAG long", "NEEDAFFIX NN", "AF 3", "AF BBAANN", "AF NN", "AF AA", "SFX BB Y 1", "SFX BB 0 s/1", "SFX AA Y 2", "SFX AA 0 t/2", "SFX AA 0 u/3"), list("a/1", "b/2", "c/3"))
	expectSeconds(t, u, 0, 0, 1, 2)
	expectSeconds(t, u, 1)
	expectSeconds(t, u, 2, 1, 2)
	expectEnds(t, u, 2)
	expectSuffixes(t, u, 0, 0, 1, 2)
	expectSuffixes(t, u, 1)
	expectSuffixes(t, u, 2, 1, 2)
	expectMarks(t, u, 0, api.Need)
	expectMarks(t, u, 1, api.Need)
	expectMarks(t, u, 2)
}

func TestEnds(t *testing.T) { // P13.4
	// Next holds none, another's flag alone, NEEDAFFIX alone, NEEDAFFIX with others; a prefix has no Next.
	body := []string{"SFX A Y 5", "SFX A 0 a", "SFX A 0 b/A", "SFX A 0 c/N", "SFX A 0 d/NA", "SFX A 0 e/ABN", "PFX P Y 1", "PFX P 0 f", "SFX B N 2", "SFX B 0 g/N", "SFX B 0 h/BA"}
	u := read(t, rows(append([]string{"NEEDAFFIX N"}, body...)...), "0")
	expectEnds(t, u, 0, 1, 5, 7)
	// The heading may stand behind all rules.
	expectEnds(t, read(t, rows(append(body, "NEEDAFFIX N")...), "0"), 0, 1, 5, 7)
	// Where N is a class of its own and NEEDAFFIX isn't defined, all of them end.
	expectEnds(t, read(t, rows(append(body, "SFX N Y 0")...), "0"), 0, 1, 2, 3, 4, 5, 6, 7)
	// Where NEEDAFFIX is another flag, that one counts, whatever N is.
	expectEnds(t, read(t, rows(append(body, "SFX N Y 1", "SFX N 0 i/M", "NEEDAFFIX M")...), "0"), 0, 1, 2, 3, 4, 5, 6, 7)
}

func TestEndsWithoutNeedaffix(t *testing.T) { // P13.4
	for _, specials := range []string{"#", "KEEPCASE N", "FORBIDDENWORD N\nKEEPCASE K\nCOMPOUNDFLAG C\nNOSUGGEST Q", "NEEDAFFIX N"} {
		u := read(t, rows(specials, "SFX A Y 3", "SFX A 0 s", "SFX A 0 t/A", "SFX A 0 u/AB", "PFX P Y 1", "PFX P 0 v", "SFX B Y 0"), list("a/AP"))
		expectEnds(t, u, 0, 1, 2, 3)
		// What the entry needs tells nothing of its rules.
		expectMarks(t, u, 0)
	}
	// Other special flags may not go on from a rule, so none but NEEDAFFIX's is asked for.
	u := read(t, rows("KEEPCASE K", "NEEDAFFIX N", "SFX A Y 2", "SFX A 0 s/N", "SFX A 0 t/A"), list("a/AN"))
	expectEnds(t, u, 1)
}

func TestMarked(t *testing.T) { // P13.4
	names := []string{"NEEDAFFIX", "FORBIDDENWORD", "KEEPCASE", "COMPOUNDFLAG", "NOSUGGEST"}
	const letters = "NFKCQ"
	// Each of the five defined or not, each of those that are at the entry or not.
	for defined := range 1 << api.Specials {
		affixes := []string{"SFX S Y 1", "SFX S 0 s", "PFX P Y 0"}
		for which, name := range names {
			if defined>>which&1 == 1 {
				affixes = append(affixes, name+" "+letters[which:which+1])
			}
		}
		for has := range 1 << api.Specials {
			if has&^defined != 0 {
				continue
			}
			flags, marks := "SP", []int(nil)
			for which := range names {
				if has>>which&1 == 1 {
					flags, marks = letters[which:which+1]+flags, append(marks, which)
				}
			}
			u := read(t, rows(affixes...), list("a", "b/"+flags, "c/S", "d/P"))
			expectMarks(t, u, 1, marks...)
			for _, other := range []int{-1, 0, 2, 3, 4} {
				expectMarks(t, u, other)
			}
			expectSuffixes(t, u, 1, 0)
		}
	}
}

func TestMarkedByEachAlone(t *testing.T) { // P13.4
	// The flags stand in another order than the special flags, so that no place may pass for another.
	u := read(t, rows("FLAG num", "NOSUGGEST 1", "KEEPCASE 2", "NEEDAFFIX 3", "COMPOUNDFLAG 4", "FORBIDDENWORD 65535", "SFX 5 Y 0"), list("a/3", "b/65535", "c/2", "d/4", "e/1", "f/5", "g", "h/1,2,3,4,5,65535"))
	for which := range api.Specials {
		expectMarks(t, u, which, which)
	}
	expectMarks(t, u, 5)
	expectMarks(t, u, 6)
	expectMarks(t, u, 7, api.Need, api.Forbid, api.Keep, api.Part, api.Quiet)
	expectMarks(t, u, 8)
}

func TestAnUndefinedSpecialMarksNoEntry(t *testing.T) { // P13.4
	// Flags of classes with any name, and entries without flags: none of them is the flag that there is not.
	u := read(t, rows("FLAG num", "SFX 1 Y 0", "PFX 65535 Y 0", "SFX 256 Y 1", "SFX 256 0 s/1,256"), list("a", "b/1", "c/65535", "d/1,256,65535"))
	for entry := range 5 {
		expectMarks(t, u, entry)
	}
	expectEnds(t, u, 0)
}
