package printer_test

import (
	"slices"
	"testing"

	"hornbook/api"
	"hornbook/printer"
	"hornbook/tables"
)

func expectSame(t *testing.T, u, v *tables.Tables) {
	t.Helper()
	if !printer.Same(u, v) || !printer.Same(v, u) || !sayTheSame(u, v) {
		t.Errorf("%.900v, %.900v and %.900v, %.900v don't say the same", u.Affixes(), u.Entries(), v.Affixes(), v.Entries())
	}
}

func expectUnlike(t *testing.T, u, v *tables.Tables) {
	t.Helper()
	if printer.Same(u, v) || printer.Same(v, u) || sayTheSame(u, v) {
		t.Errorf("%.900v, %.900v and %.900v, %.900v say the same", u.Affixes(), u.Entries(), v.Affixes(), v.Entries())
	}
}

// unlike: affix files of which each two say something else, and each of them in several ways that say the same.
// They differ in one thing from the first one or from one another.
var unlike = [][]string{
	{"SFX A Y 1\nSFX A y ies [ab]y\nSFX B Y 0\n", "# x\nFLAG short\n\nREP 0\nAF 0\nSFX A Y 1 # y\r\nSFX\tA  y ies [bab][y]\nCOMPOUNDMIN 3\nSFX B Y 0"},
	// How flags are written, the charset, the letters, each special flag, the least bytes.
	{"FLAG long\n"}, {"FLAG num\n", "FLAG num"}, {"", "FLAG short\n", "COMPOUNDMIN 3"},
	{"SET a\n", "SET a # b"}, {"SET aa\n"}, {"SET A\n"}, {"TRY a\n", "TRY aa\n"}, {"TRY ab\n", "TRY abab"}, {"TRY ba\n"}, {"SET a\nTRY a\n", "TRY a\nSET a"},
	{"NEEDAFFIX X\n"}, {"FORBIDDENWORD X\n"}, {"KEEPCASE X\n"}, {"COMPOUNDFLAG X\n"}, {"NOSUGGEST X\n"}, {"NEEDAFFIX Y\n"}, {"NEEDAFFIX X\nNOSUGGEST Y\n", "NOSUGGEST Y\nNEEDAFFIX X\n"}, {"NEEDAFFIX Y\nNOSUGGEST X\n"},
	{"COMPOUNDMIN 2\n"}, {"COMPOUNDMIN 4\n"},
	// Replacements: others, in another order, one more, one that is alike once more.
	{"REP 1\nREP a b\n", "REP 1\nREP a b # c"}, {"REP 1\nREP b a\n"}, {"REP 1\nREP a c\n"}, {"REP 1\nREP a 0\n"}, {"REP 1\nREP 0 0\n"}, {"REP 2\nREP a b\nREP b a\n"}, {"REP 2\nREP b a\nREP a b\n"}, {"REP 2\nREP a b\nREP a b\n"}, {"REP 1\nREP a# \\#\n", "REP 1\nREP a\\# \\#\n"},
	// Aliases likewise, and where just the same is written without them.
	{"AF 1\nAF AB\n", "AF 1\nAF BA\n", "AF 1\nAF ABBA\n"}, {"AF 1\nAF A\n"}, {"AF 1\nAF ABC\n"}, {"AF 2\nAF A\nAF B\n"}, {"AF 2\nAF B\nAF A\n"}, {"AF 2\nAF AB\nAF AB\n"}, {"AF 2\nAF AB\nAF A\n"},
	{"SFX A Y 1\nSFX A 0 s/A\n"}, {"AF 1\nAF A\nSFX A Y 1\nSFX A 0 s/1\n"}, {"AF 2\nAF A\nAF A\nSFX A Y 1\nSFX A 0 s/1\n", "AF 2\nAF A\nAF AA\nSFX A Y 1\nSFX A 0 s/2\n"},
	// Classes: the flag, the kind, crossed or not, their order, how many rules.
	{"SFX A Y 0\n"}, {"SFX A N 0\n"}, {"SFX B Y 0\n"}, {"PFX A Y 0\n"}, {"SFX A Y 0\nSFX B Y 0\n"}, {"SFX B Y 0\nSFX A Y 0\n"}, {"SFX A Y 0\nPFX B Y 0\n"},
	{"SFX A Y 1\nSFX A 0 s\nSFX B Y 0\n"}, {"SFX A Y 0\nSFX B Y 1\nSFX B 0 s\n"}, {"SFX B Y 0\nSFX A Y 1\nSFX A 0 s\n"}, {"PFX A Y 1\nPFX A 0 s\nSFX B Y 0\n"}, {"SFX A N 1\nSFX A 0 s\nSFX B Y 0\n"},
	// Rules: each of their fields, their order, one more.
	{"SFX A Y 1\nSFX A x ies [ab]y\nSFX B Y 0\n"}, {"SFX A Y 1\nSFX A 0 ies [ab]y\nSFX B Y 0\n"}, {"SFX A Y 1\nSFX A y 0 [ab]y\nSFX B Y 0\n"}, {"SFX A Y 1\nSFX A y ies [ac]y\nSFX B Y 0\n"}, {"SFX A Y 1\nSFX A y ies\nSFX B Y 0\n", "SFX A Y 1\nSFX A y ies .\nSFX B Y 0\n"},
	{"SFX A Y 1\nSFX A y ies/A [ab]y\nSFX B Y 0\n"}, {"SFX A Y 1\nSFX A y ies/B [ab]y\nSFX B Y 0\n"}, {"SFX A Y 1\nSFX A y ies/BA [ab]y\nSFX B Y 0\n", "SFX A Y 1\nSFX A y ies/AB [ab]y\nSFX B Y 0\n"},
	{"SFX A Y 2\nSFX A 0 s\nSFX A 0 t\n"}, {"SFX A Y 2\nSFX A 0 t\nSFX A 0 s\n"}, {"SFX A Y 2\nSFX A 0 s\nSFX A 0 s\n"}, {"SFX A Y 1\nSFX A 0 s\n"},
	{"SFX A Y 1\nSFX A 0 s [#]\n", "SFX A Y 1\nSFX A 0 s [##]\n"}, {"SFX A Y 1\nSFX A 0 s [^#]\n"}, {"SFX A Y 1\nSFX A 0 s [#][#]\n", "SFX A Y 1\nSFX A 0 s [#]#\n"},
	{"SFX A Y 1\nSFX A \\# 0\n"}, {"SFX A Y 1\nSFX A 0 \\#\n"}, {"SFX A Y 1\nSFX A 0 [\\#]\n", "SFX A Y 1\nSFX A 0 [#]\n"},
}

// unlikeWords: likewise dictionaries, of an affix file that has the flags A and B.
var unlikeWords = [][]string{
	{"0", "0\n", "\n 0 # none"}, {"1\na\n", "# one\n1\na", "1\r\n  a # b\n"}, {"1\nb\n"}, {"1\nA\n"}, {"1\naa\n"}, {"1\n\\#\n"}, {"1\n\\/\n"}, {"1\na\\/A\n"}, {"1\na#A\n", "1\na\\#A\n"},
	{"1\na/A\n", "1\na/AA\n"}, {"1\na/B\n"}, {"1\na/AB\n", "1\na/BA\n", "1\na/BABA\n"}, {"1\nb/A\n"},
	{"2\na\nb\n"}, {"2\nb\na\n"}, {"2\na\na\n"}, {"2\na/A\na\n"}, {"2\na\na/A\n"}, {"2\na/A\na/B\n"}, {"2\na/B\na/A\n"}, {"3\na\nb\nc\n"}, {"3\na\nb\na\n"},
}

func TestSame(t *testing.T) { // P14.3, P14.4
	type some struct {
		group int
		u     *tables.Tables
	}
	for _, c := range []struct {
		groups [][]string
		read   func(text string) *tables.Tables
	}{
		{unlike, func(text string) *tables.Tables { return read(t, text, "0") }},
		{unlike, func(text string) *tables.Tables { return read(t, text, "2\na\nb\n") }},
		{unlikeWords, func(text string) *tables.Tables { return read(t, "SFX A Y 0\nKEEPCASE B\n", text) }},
		{unlikeWords, func(text string) *tables.Tables { return read(t, "TRY a\nPFX B Y 1\nPFX B 0 x\nSFX A Y 0\n", text) }},
	} {
		var all []some
		for n, group := range c.groups {
			for _, text := range group {
				all = append(all, some{n, c.read(text)})
			}
		}
		for _, a := range all {
			for _, b := range all {
				if a.group == b.group {
					expectSame(t, a.u, b.u)
				} else {
					expectUnlike(t, a.u, b.u)
				}
				expectTextsToo(t, a.u, b.u)
			}
		}
	}
}

// expectTextsToo: two tables say the same just where their texts are the same, which must not be too long.
func expectTextsToo(t *testing.T, u, v *tables.Tables) {
	t.Helper()
	same := true
	for _, print := range []func(*tables.Tables) (string, api.Errno){printer.Aff, printer.Dic} {
		a, e := print(u)
		b, f := print(v)
		if e != api.OK || f != api.OK {
			t.Fatalf("the texts are answered with %d and %d", e, f)
		}
		same = same && a == b
	}
	if got := printer.Same(u, v); got != same {
		t.Errorf("Same is %v; that the texts are the same, %v", got, same)
	}
}

func TestSameAsksBothFiles(t *testing.T) { // P14.3
	affixes := []string{"SFX A Y 0\n", "SFX A N 0\n"}
	words := []string{"1\na\n", "1\na/A\n"}
	for i, a := range affixes {
		for j, w := range words {
			for k, b := range affixes {
				for l, x := range words {
					if i == k && j == l {
						expectSame(t, read(t, a, w), read(t, b, x))
					} else {
						expectUnlike(t, read(t, a, w), read(t, b, x))
					}
				}
			}
		}
	}
}

func TestSameLooksToTheEnd(t *testing.T) { // P14.3
	// Long lists that differ at one place alone, whichever it is.
	parts := [][]string{{"AF 100"}, slices.Repeat([]string{"AF AB"}, 99), {"AF A", "REP 100"}, slices.Repeat([]string{"REP a b"}, 100),
		{"SFX A Y 100"}, slices.Repeat([]string{"SFX A x y/1 z"}, 100), {"SFX B Y 0"}}
	lines := slices.Concat(parts...)
	changes := map[string][]string{
		"REP a b": {"REP a c", "REP b b"}, "AF AB": {"AF B"}, "AF A": {"AF AB"}, "SFX B Y 0": {"SFX B N 0"},
		"SFX A x y/1 z": {"SFX A X y/1 z", "SFX A x Y/1 z", "SFX A x y/100 z", "SFX A x y z", "SFX A x y/1 Z"},
	}
	u := read(t, rows(lines...), "0")
	tried := 0
	for i, line := range lines {
		for _, other := range changes[line] {
			// The first alias stays, so that the rules stay too.
			if i == 1 {
				continue
			}
			changed := slices.Clone(lines)
			changed[i] = other
			tried++
			expectUnlike(t, u, read(t, rows(changed...), "0"))
		}
	}
	if tried != 98+1+200+500+1 {
		t.Errorf("%d changes were tried", tried)
	}
	entries := slices.Repeat([]string{"a/AB"}, 100)
	u = read(t, "SFX A Y 0\nSFX B Y 0\n", list(entries...))
	for i := range entries {
		for _, other := range []string{"b/AB", "a/A", "a/B", "a", "aa/AB"} {
			changed := slices.Clone(entries)
			changed[i] = other
			expectUnlike(t, u, read(t, "SFX A Y 0\nSFX B Y 0\n", list(changed...)))
		}
	}
}
