package printer_test

import (
	"slices"
	"strings"
	"testing"

	"hornbook/api"
	"hornbook/printer"
	"hornbook/tables"
)

func TestTheChaptersExamples(t *testing.T) { // P14.1, P14.2, P14.4
	u := read(t, "SFX A Y 1\nSFX A y ies [aab]\n", "1 # one\n\\#x/AA\n")
	expectAff(t, u, "FLAG short\nCOMPOUNDMIN 3\nSFX A Y 1\nSFX A y ies [ab]\n")
	expectDic(t, u, "1\n\\#x/A\n")
	expectAgain(t, u)
}

func TestTheExampleOfTheWhole(t *testing.T) { // P14.1, P14.2, P14.4
	u := read(t, wholeAffixes, wholeWords)
	expectAff(t, u, "FLAG short\nTRY esy\nNEEDAFFIX N\nFORBIDDENWORD F\nCOMPOUNDFLAG C\nCOMPOUNDMIN 3\nREP 1\nREP f ph\n"+
		"SFX S Y 2\nSFX S 0 s [^sy]\nSFX S y ies [^aeiou]y\nSFX E Y 1\nSFX E 0 er/S .\nPFX U Y 1\nPFX U 0 un .\n")
	expectDic(t, u, "6\nfly/S\ncat/CS\nplay/ESU\nknot/C\nflys/F\nsing/EN\n")
	expectAgain(t, u)
}

func TestTablesThatSaySomethingOfAll(t *testing.T) { // P14.1, P14.2, P14.4
	u := rich(t)
	affixes, words := richFiles()
	expectAff(t, u, affixes)
	expectDic(t, u, words)
	expectAgain(t, u)
}

func TestNilTables(t *testing.T) { // P14.1 to P14.3
	expectNoAff(t, nil, api.ErrNil)
	expectNoDic(t, nil, api.ErrNil)
	if !printer.Same(nil, nil) {
		t.Errorf("nil tables say something else than nil ones")
	}
	for _, u := range []*tables.Tables{file(t), rich(t)} {
		if printer.Same(u, nil) || printer.Same(nil, u) {
			t.Errorf("nil tables say the same as others")
		}
	}
}

func TestTablesThatSayNothing(t *testing.T) { // P14.1, P14.2
	for _, affixes := range []string{"", "\n", "# none", "FLAG short", "COMPOUNDMIN 3", "REP 0\nAF 0\n", strings.Repeat("\n", api.MaxText)} {
		for _, words := range []string{"0", "0\n", "\n#\n 0 # none", "0" + strings.Repeat("\n", api.MaxText-1)} {
			u := read(t, affixes, words)
			expectAff(t, u, "FLAG short\nCOMPOUNDMIN 3\n")
			expectDic(t, u, "0\n")
			expectAgain(t, u)
		}
	}
}

func TestTheKindsOfFlags(t *testing.T) { // P14.1, rows 1, 4, 7, 8
	for name, flags := range map[string][]string{
		// A special flag, a class, another one that goes on from it, both in a row as they are read, and as they are written.
		"short": {"N", "b", "A", "bNA", "ANb"},
		"long":  {"NN", "bA", "Ab", "bANNAb", "AbNNbA"},
		"num":   {"300", "65535", "7", "65535,300,7", "7,300,65535"},
	} {
		special, first, second, some, written := flags[0], flags[1], flags[2], flags[3], flags[4]
		body := func(set string) []string {
			return []string{"SFX " + first + " Y 1", "SFX " + first + " 0 s/" + set + " .", "SFX " + second + " N 0"}
		}
		ahead := []string{"FLAG " + name, "NEEDAFFIX " + special, "COMPOUNDMIN 3"}
		expectLines(t, slices.Concat(ahead, body(some)), slices.Concat(ahead, body(written)))
		expectLines(t, slices.Concat(ahead, []string{"AF 2", "AF " + first, "AF " + some}, body("2")),
			slices.Concat(ahead, []string{"AF 2", "AF " + first, "AF " + written}, body("2")))
		u := read(t, rows(slices.Concat(ahead, body(some))...), list("a/"+some, "b", "c/"+second))
		expectDic(t, u, list("a/"+written, "b", "c/"+second))
		expectAgain(t, u)
	}
	// Without the heading, and where no flag stands anywhere.
	expectLines(t, []string{"TRY a"}, []string{"FLAG short", "TRY a", "COMPOUNDMIN 3"})
	expectLines(t, []string{"TRY a", "FLAG long"}, []string{"FLAG long", "TRY a", "COMPOUNDMIN 3"})
	expectLines(t, []string{"TRY a", "FLAG num"}, []string{"FLAG num", "TRY a", "COMPOUNDMIN 3"})
}

func TestEveryFlagOfEachKind(t *testing.T) { // P14.1, P14.4
	for b := byte('!'); b <= '~'; b++ {
		if strings.IndexByte("/,#", b) >= 0 {
			continue
		}
		s := string([]byte{b})
		expectGroup(t, []string{"SFX " + s + " Y 1", "SFX " + s + " 0 x/" + s}, []string{"SFX " + s + " Y 1", "SFX " + s + " 0 x/" + s + " ."})
		for _, two := range []string{s + "!", "!" + s, s + s, s + "~", "0" + s} {
			u := read(t, rows("FLAG long", "PFX "+two+" N 0"), list("a/"+two))
			expectAff(t, u, rows("FLAG long", "COMPOUNDMIN 3", "PFX "+two+" N 0"))
			expectDic(t, u, list("a/"+two))
			expectAgain(t, u)
		}
	}
	for _, number := range []string{"1", "9", "10", "255", "256", "999", "65534", "65535"} {
		expectLines(t, []string{"FLAG num", "KEEPCASE " + number}, []string{"FLAG num", "KEEPCASE " + number, "COMPOUNDMIN 3"})
	}
}

func TestCharset(t *testing.T) { // P14.1, row 2
	for _, charset := range []string{"x", "UTF-8", "0", "a#b", `\#/`, "FLAG", "\xef\xbb\xbf", "!\x80\xff~", long(9999)} {
		expectLines(t, []string{"SET " + charset}, []string{"FLAG short", "SET " + charset, "COMPOUNDMIN 3"})
		// It is not cut short by what stands on either side.
		expectLines(t, []string{"COMPOUNDMIN 7", "TRY aba", "\tSET  " + charset + " # more"}, []string{"FLAG short", "SET " + charset, "TRY ab", "COMPOUNDMIN 7"})
	}
}

func TestLetters(t *testing.T) { // P14.1, row 3
	for letters, want := range map[string]string{"a": "a", "noon": "no", "0": "0", "a#b#": "a#b", `\/\/`: `\/`, "esianrtolcdugmphbyfvkwzESI": "esianrtolcdugmphbyfvkwzESI", "\xff\x80\xff": "\xff\x80", long(9999): "x"} {
		expectLines(t, []string{"TRY " + letters}, []string{"FLAG short", "TRY " + want, "COMPOUNDMIN 3"})
	}
}

func TestSpecialFlags(t *testing.T) { // P14.1, row 4
	names := []string{"NEEDAFFIX", "FORBIDDENWORD", "KEEPCASE", "COMPOUNDFLAG", "NOSUGGEST"}
	// Each of the five defined or not; they stand in the one order, however they stood and whatever their flags are.
	for defined := range 1 << api.Specials {
		for _, letters := range []string{"NFKCQ", "54321", "cebad"} {
			var lines []string
			for which, name := range names {
				if defined>>which&1 == 1 {
					lines = append(lines, name+" "+letters[which:which+1])
				}
			}
			want := slices.Concat([]string{"FLAG short"}, lines, []string{"COMPOUNDMIN 3"})
			expectLines(t, lines, want)
			slices.Reverse(lines)
			expectLines(t, lines, want)
			// They may stand behind all the rest.
			expectLines(t, slices.Concat([]string{"SFX x Y 0"}, lines), slices.Concat(want, []string{"SFX x Y 0"}))
		}
	}
}

func TestLeast(t *testing.T) { // P14.1, row 5
	expectLines(t, nil, []string{"FLAG short", "COMPOUNDMIN 3"})
	for _, least := range []string{"1", "2", "3", "4", "9", "10", "63", "64"} {
		expectLines(t, []string{"COMPOUNDMIN " + least}, []string{"FLAG short", "COMPOUNDMIN " + least})
		expectLines(t, []string{"REP 1", "REP a b", "COMPOUNDMIN " + least}, []string{"FLAG short", "COMPOUNDMIN " + least, "REP 1", "REP a b"})
	}
}

func TestReplacements(t *testing.T) { // P14.1, row 6
	expectGroup(t, []string{"REP 0"}, nil)
	for reps, want := range map[string]string{
		"f ph": "f ph", "ph f": "ph f", "a 0": "a 0", "0 0": "0 0", "0 a": "0 a", "00 00": "00 00", "0a 0b": "0a 0b",
		// Number signs, slashes and backslashes.
		`\# \#`: `\# \#`, `a#b c#d`: `a\#b c\#d`, `\/ \/`: `\/ \/`, `\\ \\`: `\\ \\`, `\\\/\# 0`: `\\\/\# 0`,
		long(32) + " " + long(32): long(32) + " " + long(32),
		"\xff\x80 [^.]":           "\xff\x80 [^.]",
		strings.Repeat(`\/`, 32) + " " + strings.Repeat(`\\`, 32): strings.Repeat(`\/`, 32) + " " + strings.Repeat(`\\`, 32),
	} {
		expectGroup(t, []string{"REP 1", "REP " + reps}, []string{"REP 1", "REP " + want})
	}
	// In their order, repeats too.
	group := []string{"REP 5", "REP c d", "REP a b", "REP c d", "REP a 0", "REP b a"}
	expectGroup(t, group, group)
	most := slices.Concat([]string{"REP 256"}, slices.Repeat([]string{"REP a 0"}, 256))
	expectGroup(t, most, most)
}

func TestAliases(t *testing.T) { // P14.1, rows 7 and 8; P14.2
	expectGroup(t, []string{"AF 0"}, nil)
	// In their order, each rising; those that are alike stay, and what takes one of them takes the first.
	u := read(t, rows("AF 5", "AF BA", "AF C", "AF AB", "AF CBA", "AF CC", "SFX B Y 3", "SFX B 0 s/3", "SFX B 0 t/5", "SFX B 0 u", "SFX A N 1", "SFX A 0 v/4", "SFX C Y 0"),
		list("a/1", "b/2", "c/3", "d/4", "e/5", "f"))
	expectAff(t, u, rows("FLAG short", "COMPOUNDMIN 3", "AF 5", "AF AB", "AF C", "AF AB", "AF ABC", "AF C",
		"SFX B Y 3", "SFX B 0 s/1 .", "SFX B 0 t/2 .", "SFX B 0 u .", "SFX A N 1", "SFX A 0 v/4 .", "SFX C Y 0"))
	expectDic(t, u, list("a/1", "b/2", "c/1", "d/4", "e/2", "f"))
	expectAgain(t, u)
	// An alias may have flags that stand nowhere else.
	expectLines(t, []string{"FLAG num", "AF 2", "AF 300,7,300", "AF 9"}, []string{"FLAG num", "COMPOUNDMIN 3", "AF 2", "AF 7,300", "AF 9"})
	// Special flags and classes are written as themselves, not by their aliases' numbers.
	expectLines(t, []string{"FLAG long", "AF 1", "AF NN", "NEEDAFFIX NN", "SFX AA Y 1", "SFX AA 0 s/1"},
		[]string{"FLAG long", "NEEDAFFIX NN", "COMPOUNDMIN 3", "AF 1", "AF NN", "SFX AA Y 1", "SFX AA 0 s/1 ."})
}

func TestManyAliases(t *testing.T) { // P14.1, P14.2
	lines, entries := []string{"FLAG num", "COMPOUNDMIN 3", "AF 1024"}, []string{}
	for n := range api.MaxAliases {
		lines = append(lines, "AF "+decimal(n+1))
		entries = append(entries, "a/1024")
	}
	lines = append(lines, "SFX 1024 Y 1", "SFX 1024 0 s/1024 .")
	u := read(t, rows(lines...), list(entries...))
	expectAff(t, u, rows(lines...))
	expectDic(t, u, list(entries...))
	expectAgain(t, u)
}

func TestASetOfAsManyFlagsAsThereMayBe(t *testing.T) { // P14.1, P14.2
	var flags, classes []string
	for n := range api.MaxFlags {
		flags = append(flags, decimal(60000+n))
		classes = append(classes, "SFX "+decimal(60000+n)+" N 0")
	}
	set := strings.Join(flags, ",")
	ahead := []string{"FLAG num", "COMPOUNDMIN 3"}
	for _, group := range [][]string{{"SFX 1 Y 1", "SFX 1 0 s/" + set + " ."}, {"AF 1", "AF " + set, "SFX 1 Y 1", "SFX 1 0 s/1 ."}} {
		expectLines(t, slices.Concat(ahead, group, classes), slices.Concat(ahead, group, classes))
	}
	u := read(t, rows(slices.Concat(ahead, classes)...), list("a/"+set))
	expectDic(t, u, list("a/"+set))
	expectAgain(t, u)
}

func TestClasses(t *testing.T) { // P14.1, row 8
	// Either kind, crossed or not, without rules and with some.
	for _, head := range []string{"PFX A Y", "PFX A N", "SFX A Y", "SFX A N"} {
		for _, rules := range [][]string{nil, {" 0 x ."}, {" 0 x .", " y z ab", " 0 x ."}} {
			lines := []string{head + " " + decimal(len(rules))}
			for _, rule := range rules {
				lines = append(lines, head[:5]+rule)
			}
			expectGroup(t, lines, lines)
		}
	}
	// In the order of their headings, whatever their flags and kinds are; each with its own rules.
	lines := []string{"SFX c Y 2", "SFX c 0 c1 .", "SFX c 0 c2 .", "PFX b N 0", "PFX d Y 1", "PFX d 0 d1 .", "SFX a N 0", "SFX e N 3", "SFX e 0 e1/a .", "SFX e 0 e2 .", "SFX e 0 e3/c .", "PFX Z Y 0"}
	expectGroup(t, lines, lines)
	// Nor do other rows stand between them.
	expectLines(t, []string{"PFX b N 1", "PFX b 0 x", "TRY e", "SFX a Y 0", "SET c", "REP 1", "REP x y", "SFX c Y 1", "SFX c 0 z", "KEEPCASE k"},
		[]string{"FLAG short", "SET c", "TRY e", "KEEPCASE k", "COMPOUNDMIN 3", "REP 1", "REP x y", "PFX b N 1", "PFX b 0 x .", "SFX a Y 0", "SFX c Y 1", "SFX c 0 z ."})
}

// expectRule: a rule whose fields behind the flag are these is written with those.
func expectRule(t *testing.T, fields, want string) {
	t.Helper()
	expectGroup(t, []string{"SFX A Y 1", "SFX A " + fields}, []string{"SFX A Y 1", "SFX A " + want})
	if !strings.Contains(fields, "/A") {
		expectGroup(t, []string{"PFX A N 1", "PFX A " + fields}, []string{"PFX A N 1", "PFX A " + want})
	}
}

func TestWhatARuleStripsAndAdds(t *testing.T) { // P14.1, row 8
	for fields, want := range map[string]string{
		"0 0": "0 0 .", "0 s": "0 s .", "y 0": "y 0 .", "y ies": "y ies .", "0 0 .": "0 0 .", "y 0 y": "y 0 y",
		// With noughts that are none.
		"00 00": "00 00 .", "0a a0": "0a a0 .", "01 10": "01 10 .",
		// Number signs, slashes and backslashes, each where it has a backslash, and where it needs none as it is read.
		`\# \#`: `\# \# .`, "a# b##": `a\# b\#\# .`, `\/ \/`: `\/ \/ .`, `\\ \\`: `\\ \\ .`, `a\\\/\#b c\#\/\\d`: `a\\\/\#b c\#\/\\d .`, `0 \/0`: `0 \/0 .`, `\/0 0`: `\/0 0 .`, `\\0 \\0`: `\\0 \\0 .`,
		"\x80\xff! ~": "\x80\xff! ~ .", "[.^] ].[": "[.^] ].[ .", "1,2 3": "1,2 3 .",
		long(32) + " " + strings.Repeat(`\#`, 32): long(32) + " " + strings.Repeat(`\#`, 32) + " .",
	} {
		expectRule(t, fields, want)
	}
}

func TestBlanksAreNeverAdded(t *testing.T) { // P14.1
	// A blank cuts the field, with a backslash or without one, so none is ever written but between two.
	for _, fields := range []string{`0 a\ b`, `0 \ `, `a\ 0 b`, "0 a\\\tb"} {
		if u, fault := tables.Read(rows("SFX A Y 1", "SFX A "+fields), "0"); u != nil || fault.Line != 2 {
			t.Errorf("%q is taken, %v", fields, fault)
		}
	}
	expectRule(t, " \t 0 \t a\t  b \t", "0 a b")
}

func TestNext(t *testing.T) { // P14.1, row 8
	for fields, want := range map[string]string{
		"0 s/A": "0 s/A .", "0 s/AAA": "0 s/A .", "0 0/A": "0 0/A .", "y 0/A y": "y 0/A y", `0 \/\/\//A`: `0 \/\/\//A .`, `0 a#/A`: `0 a\#/A .`, `0 \\/A`: `0 \\/A .`,
	} {
		expectRule(t, fields, want)
	}
	lines := []string{"NEEDAFFIX N", "SFX b Y 4", "SFX b 0 s/bNa", "SFX b 0 s/N", "SFX b 0 s", "SFX b 0 0/ab", "SFX a Y 0"}
	expectLines(t, lines, []string{"FLAG short", "NEEDAFFIX N", "COMPOUNDMIN 3", "SFX b Y 4", "SFX b 0 s/Nab .", "SFX b 0 s/N .", "SFX b 0 s .", "SFX b 0 0/ab .", "SFX a Y 0"})
}

func TestConditions(t *testing.T) { // P14.1, row 8
	for cond, want := range map[string]string{
		"": ".", ".": ".", "..": "..", "a": "a", "[ba]": "[ab]", "[a]": "a", "[^a]": "[^a]", "[a^]": "[a^]", "[^^a]": "[^^a]", "]": "]", "[.]": "[.]", "[[]": "[[]", "[.]a[[]": "[.]a[[]",
		"[^aeiou]y": "[^aeiou]y", "[0][0]": "00", "0": "0", "/": "/", `\`: `\`, `\\`: `\\`, "a/A": "a/A", "\xff[\xff\x80]": "\xff[\x80\xff]",
		// The number sign first: alone, with others behind it, twice; and where it isn't first.
		"[#]": "[#]", "[#][#]": "[#]#", "[##]#": "[#]#", "[#]a": "[#]a", "[#][ab].": "[#][ab].", "[#]]": "[#]]", "[#][.]": "[#][.]", "[#][#a]": "[#][#a]", "[#][^#]#": "[#][^#]#",
		"[#a]": "[#a]", "[a#]": "[#a]", "[^#]": "[^#]", "[^#a]": "[^#a]", "a#": "a#", "a[#]": "a#", ".#": ".#", "]#": "]#", "[#.]": "[#.]", `\#`: `\#`,
		strings.Repeat("[#]", 16):                      "[#]" + strings.Repeat("#", 15),
		"[" + strings.Repeat("#", 496) + "]" + "abcde": "[#]abcde",
	} {
		expectRule(t, "0 s "+cond, "0 s "+want)
		expectRule(t, "x 0 "+cond+" # more", "x 0 "+want)
	}
}

func TestTheLongestConditions(t *testing.T) { // P14.1, P14.4
	// As many bytes as a condition may have, and still as many when it is written.
	var bytes []byte
	for b := byte('!'); b < 127; b++ {
		if b != ']' && b != '^' {
			bytes = append(bytes, b)
		}
	}
	for b := 128; b < 256; b++ {
		bytes = append(bytes, byte(b))
	}
	item := string(bytes)
	cond := "[" + item + "][^" + item + "]" + "[" + item[1:53] + "]" + strings.Repeat("#", 13)
	if len(cond) != api.MaxPattern {
		t.Fatalf("%d bytes", len(cond))
	}
	expectRule(t, "0 s "+cond, "0 s "+cond)
	expectRule(t, "0 s [#]"+cond[:len(cond)-3], "0 s [#]"+cond[:len(cond)-3])
}

func TestEntries(t *testing.T) { // P14.2
	const affixes = "KEEPCASE K\nSFX b Y 0\nPFX a Y 0\nSFX ! N 0\n"
	for entry, want := range map[string]string{
		"a": "a", "a/b": "a/b", "a/ba": "a/ab", "a/bKab!": "a/!Kab", "0": "0", "0/b": "0/b", "12": "12", "a,b": "a,b",
		`\#`: `\#`, "a#": `a\#`, `\/`: `\/`, `\//b`: `\//b`, `\\`: `\\`, `\\/b`: `\\/b`, `\\\/\#/K`: `\\\/\#/K`, "a#b/a # more": `a\#b/a`, " \t a\t": "a",
		"\xef\xbb\xbf": "\xef\xbb\xbf", "\x80\xff/b": "\x80\xff/b", "[^.]": "[^.]",
		long(64): long(64), long(64) + "/b": long(64) + "/b", strings.Repeat(`\/`, 64): strings.Repeat(`\/`, 64), "x" + strings.Repeat("#", 63): "x" + strings.Repeat(`\#`, 63),
	} {
		u := read(t, affixes, list(entry))
		expectDic(t, u, list(want))
		expectAgain(t, u)
		// Whatever stands beside it.
		u = read(t, affixes, list("x/b", entry, "y", entry))
		expectDic(t, u, list("x/b", want, "y", want))
		expectAgain(t, u)
	}
}

func TestEntriesInTheirOrder(t *testing.T) { // P14.2
	entries := []string{"c", "a/b", "b", "a", "a/b", "a/ab", "c", "B"}
	u := read(t, "SFX b Y 0\nPFX a Y 0\n", list(entries...))
	expectDic(t, u, list(entries...))
	most := slices.Repeat([]string{"a/b"}, api.MaxEntries)
	u = read(t, "SFX b Y 0\n", list(most...))
	expectDic(t, u, list(most...))
	expectAgain(t, u)
}

func TestEachTextSaysItsOwnFileAlone(t *testing.T) { // P14.1, P14.2
	for _, affixes := range []string{"SFX A Y 0\n", "KEEPCASE A\n", "SFX A Y 1\nSFX A 0 s\n"} {
		want, _ := printer.Aff(read(t, affixes, "0"))
		for _, words := range []string{"0", "1\na\n", "2\na/A\nb\n", "1\na/A"} {
			u := read(t, affixes, words)
			expectAff(t, u, want)
			expectDic(t, u, strings.TrimSuffix(words, "\n")+"\n")
		}
	}
}
