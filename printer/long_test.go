package printer_test

import (
	"slices"
	"strings"
	"testing"

	"hornbook/api"
	"hornbook/printer"
)

// Texts of MaxText bytes, and of more.

// inEveryFile is what an affix file is written with that says nothing.
const inEveryFile = "FLAG short\nCOMPOUNDMIN 3\n"

// around MaxText: how many bytes more there are.
var around = []int{-2, -1, 0, 1, 2, 20}

// expectAffOfSize: the affix file is written with so many bytes; with more than MaxText it isn't.
func expectAffOfSize(t *testing.T, size int, affixes string) {
	t.Helper()
	u := read(t, affixes, "1\na#\n")
	if size > api.MaxText {
		expectNoAff(t, u, api.ErrLong)
	} else if got, e := printer.Aff(u); len(got) != size || e != api.OK {
		t.Errorf("Aff has %d bytes, %d; want %d", len(got), e, size)
	} else {
		expectAgain(t, u)
	}
	// The other text has its own length.
	expectDic(t, u, "1\na\\#\n")
}

func TestAnAffixFileOfMaxText(t *testing.T) { // P14.1, P14.4
	// Whichever row has the last bytes, and whether it is written with as many as it is read, with more, or with fewer.
	for group, want := range map[string]string{
		"":                                 "",
		"REP 1\nREP a## 0":                 "REP 1\nREP a\\#\\# 0\n",
		"SFX A Y 1\nSFX A 0 s":             "SFX A Y 1\nSFX A 0 s .\n",
		"PFX A Y 1\nPFX A x## 0 .#":        "PFX A Y 1\nPFX A x\\#\\# 0 .#\n",
		"SFX A Y 1\nSFX A 0 [#]/AAAAA [#]": "SFX A Y 1\nSFX A 0 [\\#]/A [#]\n",
		"AF 1\nAF AAAAA":                   "AF 1\nAF A\n",
	} {
		for _, more := range around {
			size := api.MaxText + more
			charset := "SET " + long(size-len(inEveryFile)-len("SET \n")-len(want)) + "\n"
			expectAffOfSize(t, size, charset+group)
		}
	}
}

func TestAnAffixFileOfManyRules(t *testing.T) { // P14.1, P14.4
	read := "SFX A a" + strings.Repeat("#", 30) + " s"
	written := len("SFX A a s .\n") + 2*30
	for _, more := range around {
		size := api.MaxText + more
		rest := size - len(inEveryFile) - len("SFX A Y 999\n")
		many := rest/written - 1
		rest -= many * written
		// What is left goes to two rules, as evenly as can be.
		rest -= 2 * len("SFX A   .\n")
		var pieces []string
		for left := 4; left > 0; left-- {
			n := rest / left
			rest -= n
			pieces = append(pieces, long(n))
		}
		lines := slices.Concat([]string{"SFX A Y " + decimal(many+2)}, slices.Repeat([]string{read}, many),
			[]string{"SFX A " + pieces[0] + " " + pieces[1], "SFX A " + pieces[2] + " " + pieces[3] + " ."})
		expectAffOfSize(t, size, rows(lines...))
	}
}

// fill: entries that are written with so many bytes, the last one as it stands.
func fill(size int, last string) []string {
	rest := size - len("8192\n") - len(last) - 1
	var entries []string
	for left := api.MaxEntries - 1; left > 0; left-- {
		n := rest / left
		rest -= n
		entries = append(entries, long(n-1))
	}
	return append(entries, last)
}

func TestADictionaryOfMaxText(t *testing.T) { // P14.2, P14.4
	refused := 0
	for _, more := range around {
		size := api.MaxText + more
		for last, want := range map[string]string{"ab": "ab", "a#": `a\#`, "a#/A": `a\#/A`, "abc/AAAAA": "abc/A", "a####################": "a" + strings.Repeat(`\#`, 20)} {
			entries := fill(size, want)
			written := list(entries...)
			entries[len(entries)-1] = last
			text := strings.TrimSuffix(list(entries...), "\n")
			if len(text) > api.MaxText {
				continue
			}
			u := read(t, "SFX A Y 0\n", text)
			if size > api.MaxText {
				refused++
				expectNoDic(t, u, api.ErrLong)
			} else {
				expectDic(t, u, written)
				expectAgain(t, u)
			}
			// The other text has its own length.
			expectAff(t, u, inEveryFile+"SFX A Y 0\n")
		}
	}
	if refused < 6 {
		t.Errorf("only %d texts were read that are too long when they are written", refused)
	}
}

func TestBothTextsTooLong(t *testing.T) { // P14.1 to P14.3
	charset, entries := "SET "+long(65530), slices.Repeat([]string{"a###"}, api.MaxEntries)
	words := list(entries...)
	u := read(t, charset, words)
	for range 2 {
		expectNoAff(t, u, api.ErrLong)
		expectNoDic(t, u, api.ErrLong)
	}
	// What they say can still be held against one another.
	expectSame(t, u, u)
	expectSame(t, u, read(t, charset+"\n", words+"#"))
	for _, other := range [][2]string{
		{charset[:len(charset)-1] + "y", words}, {charset[:len(charset)-1], words}, {charset, list(entries[1:]...)},
		{charset, strings.TrimSuffix(words, "#\n") + "b\n"}, {charset, strings.Replace(words, "a", "b", 1)},
	} {
		expectUnlike(t, u, read(t, other[0], other[1]))
	}
}
