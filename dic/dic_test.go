package dic_test

import (
	"fmt"
	"strings"
	"testing"

	"hornbook/api"
	"hornbook/dic"
)

func TestTheChaptersExamples(t *testing.T) { // P12.1, P12.2
	f := withA(t)
	expectEntries(t, f, "2\nfly/A\nin\\/out\n", entry("fly", 65), entry("in/out"))
	expectFault(t, f, 2, api.ErrUnknown, "1\nfly/B\n")
	expectFault(t, f, 3, api.ErrCount, "1\na\nb\n")
	expectFault(t, f, 3, api.ErrCount, "2\na\n")
	expectFault(t, f, 3, api.ErrCount, "2\na")
	expectFault(t, f, 2, api.ErrFields, "1\na b\n")
	expectEntries(t, f, "1\na #b\n", entry("a"))
	expectFault(t, f, 2, api.ErrWord, "1\n/A\n")
	expectFault(t, f, 1, api.ErrCount, "")
	expectFault(t, f, 1, api.ErrNumber, "01\na\n")
}

func TestTheDictionaryOfTheWholesExamples(t *testing.T) { // P12.1 to P12.3
	f := file(t, "FORBIDDENWORD F", "NEEDAFFIX N", "COMPOUNDFLAG C", "TRY esy", "REP 1", "REP f ph",
		"SFX S Y 2", "SFX S 0 s [^sy]", "SFX S y ies [^aeiou]y", "SFX E Y 1", "SFX E 0 er/S .", "PFX U Y 1", "PFX U 0 un .")
	text := "6\nfly/S\ncat/SC\nplay/SEU\nknot/C\nflys/F\nsing/NE\n"
	expectEntries(t, f, text, entry("fly", 'S'), entry("cat", 'C', 'S'), entry("play", 'E', 'S', 'U'), entry("knot", 'C'), entry("flys", 'F'), entry("sing", 'E', 'N'))
	w := read(t, f, text)
	expectFound(t, w, "play", 2)
	expectFound(t, w, "plays")
}

func TestANilFile(t *testing.T) { // P12.1
	for _, text := range []string{"", "0", "1\na\n", "1\na/A\n", "x", strings.Repeat("#", api.MaxText), strings.Repeat("#", api.MaxText+1)} {
		expectFault(t, nil, 0, api.ErrNil, text)
	}
}

func TestTextsUpToTheMostBytes(t *testing.T) { // P12.1
	f := withA(t)
	most := "1\na\n" + strings.Repeat("#", api.MaxText-len("1\na\n"))
	expectEntries(t, f, most, entry("a"))
	expectFault(t, f, 0, api.ErrLong, most+"#")
	expectFault(t, f, api.MaxText+1, api.ErrCount, strings.Repeat("\n", api.MaxText))
	expectFault(t, f, 0, api.ErrLong, strings.Repeat("\n", api.MaxText+1))
	// The length is asked ahead of all rows.
	expectFault(t, f, 1, api.ErrNumber, "x\n"+strings.Repeat("\n", api.MaxText-2))
	expectFault(t, f, 0, api.ErrLong, "x\n"+strings.Repeat("\n", api.MaxText-1))
	// A mark at the beginning counts among the bytes, though it is no part of a line.
	expectFault(t, f, 0, api.ErrLong, "\xef\xbb\xbf"+most[:api.MaxText-2])
	expectEntries(t, f, "\xef\xbb\xbf"+most[:api.MaxText-3], entry("a"))
}

func TestNoRowsAtAll(t *testing.T) { // P12.1
	f := withA(t)
	for text, line := range map[string]int{
		"": 1, "\n": 2, "\n\n\n": 4, "#": 2, "# 1\n": 2, "# 1\n# a": 3, " \t": 2, " \t\n\r\n": 3, "\r": 2, "\xef\xbb\xbf": 1, "\xef\xbb\xbf\n": 2, "#1": 2, "\n#\n": 3,
	} {
		expectFault(t, f, line, api.ErrCount, text)
	}
}

func TestTheFirstRowsFields(t *testing.T) { // P12.1
	f := withA(t)
	for _, row := range []string{"1 2", "1 a", "0 0", "x y", "1 2 3", "8193 a", "\t1\t1 # a"} {
		expectFault(t, f, 1, api.ErrFields, row)
		expectFault(t, f, 3, api.ErrFields, rows("# words", "", row, "a", "b c"))
	}
	// What is left out behind a # is no field.
	expectEntries(t, f, "1 # 2\na", entry("a"))
	expectEntries(t, f, " 1\t#2\na", entry("a"))
}

func TestTheCount(t *testing.T) { // P12.1
	f := withA(t)
	for _, no := range []string{"a", "-1", "+1", "1.", "1/", "1/A", "01", "00", "1#", "0x1", "8193", "8200", "9999", "10000", "08192", "1,2", "\xff", "\x00", "\\1", "²",
		"4294967296", "4294967297", "18446744073709551617", strings.Repeat("9", 9999)} {
		expectFault(t, f, 1, api.ErrNumber, no)
		expectFault(t, f, 1, api.ErrNumber, no+"\na\nb c\n")
		expectFault(t, f, 4, api.ErrNumber, "#\n\n#\n "+no+" # x\na\n")
	}
	expectEntries(t, f, "0")
	expectEntries(t, f, "0\n")
	expectEntries(t, f, "# none\n\n0 # none\n\n# none\n")
	expectFault(t, f, 2, api.ErrCount, "8192")
	expectFault(t, f, 2, api.ErrCount, "1\n")
}

func TestTheMostEntries(t *testing.T) { // P12.1 to P12.3
	f := withA(t)
	// 8192 entries go into the bytes of a text, if their words are short.
	var list []string
	var want []api.Entry
	for n := range api.MaxEntries {
		word := fmt.Sprintf("%x", n)
		list = append(list, word)
		want = append(want, entry(word))
	}
	text := "8192\n" + rows(list...)
	expectEntries(t, f, text, want...)
	w := read(t, f, text)
	for n, e := range want {
		expectFound(t, w, e.Word, n)
	}
	expectFound(t, w, "2000")
	expectFault(t, f, api.MaxEntries+2, api.ErrCount, text+"g")
	expectFault(t, f, api.MaxEntries+2, api.ErrCount, text+"g h")
	expectFault(t, f, api.MaxEntries+1, api.ErrCount, "8191\n"+rows(list...))
	expectFault(t, f, api.MaxEntries+1, api.ErrCount, "8192\n"+rows(list[1:]...))
	expectFault(t, f, 1, api.ErrNumber, "8193\n"+rows(append(list, "g")...))
}

func TestFewerEntriesThanTheCountSays(t *testing.T) { // P12.1
	f := withA(t)
	for text, line := range map[string]int{
		"1": 2, "1\n": 2, "1\r\n": 2, "1\n\n": 3, "1\n#": 3, "1\n#\n": 3, "1\n \n\n": 4, "#\n1\n": 3, "1\n\r": 3,
		"2\na": 3, "2\na\n": 3, "2\na\n\n": 4, "2\na\n#b": 4, "2\na\n#b\n": 4, "2\n\n\na": 5, "2\n\n\na\n": 5, "3\na\nb": 4, "3\na\nb\n": 4, "\xef\xbb\xbf2\na\n": 3,
	} {
		expectFault(t, f, line, api.ErrCount, text)
	}
	// An entry at fault is told, not that there are too few.
	expectFault(t, f, 2, api.ErrFields, "3\na b\nc\n")
	expectFault(t, f, 3, api.ErrUnknown, "9\na\nb/B\n")
}

func TestMoreEntriesThanTheCountSays(t *testing.T) { // P12.1
	f := withA(t)
	for text, line := range map[string]int{
		"0\na": 2, "0\na\n": 2, "0\n\n#\na\n": 4, "1\na\nb": 3, "1\na\nb\n": 3, "1\na\n\nb\nc\n": 4, "2\na\nb\n#\nc": 5, "1\na\na\n": 3,
	} {
		expectFault(t, f, line, api.ErrCount, text)
	}
	// Of such a row it is the first thing told, whatever stands in it.
	for _, row := range []string{"a b", "a b c", "a\\", "a\\b", "/", "/A", "\x01", "\x7f", long(65), "a/", "a/B", "a/#", "a/A/A", "1"} {
		expectFault(t, f, 2, api.ErrCount, "0\n"+row)
		expectFault(t, f, 3, api.ErrCount, "1\na\n"+row)
		expectFault(t, f, 3, api.ErrCount, "1\na/A\n"+row+"\n")
	}
	// But an entry at fault ahead of it comes first.
	expectFault(t, f, 2, api.ErrWord, "1\n/A\nb\n")
	expectFault(t, f, 3, api.ErrEscape, "2\na\nb\\\nc\n")
}

func TestTheFirstRowAtFaultIsTold(t *testing.T) { // P12.1
	f := withA(t)
	wrong := map[string]api.Errno{"a b": api.ErrFields, "a\\b": api.ErrEscape, "/A": api.ErrWord, long(65): api.ErrSize, "a/": api.ErrFlag, "a/B": api.ErrUnknown}
	for first, code := range wrong {
		for second := range wrong {
			expectFault(t, f, 3, code, rows("3", "good", first, second))
			expectFault(t, f, 4, code, rows("", "3", "good/A # x", first, "", second))
		}
	}
	expectFault(t, f, 4, api.ErrUnknown, "\xef\xbb\xbf2\r\n\r\na\r\nb/B\r\n")
}

func TestAnEntrysRowHasOneField(t *testing.T) { // P12.1
	f := withA(t)
	for _, row := range []string{"a b", "a\tb", " a  b ", "a /A", "a/ A", "a/A A", "a b c", "a/A st:x", "a b #c", "in\\ out", "/ B"} {
		expectWrong(t, f, api.ErrFields, row)
	}
	// A remark is left out first: here one field is left, with a backslash at its end.
	expectWrong(t, f, api.ErrEscape, "a\\ #")
	for _, row := range []string{"a", " a", "a ", "\ta\t", "a #", "a #b c", "  a\t# b"} {
		expectEntries(t, f, "1\n"+row, entry("a"))
		expectEntries(t, f, "1\r\n"+row+"\r\n", entry("a"))
	}
}

func TestFind(t *testing.T) { // P12.3
	f := file(t, "KEEPCASE K", "SFX A Y 0")
	w := read(t, f, rows("9", "fly/A", "Fly", "fly", "fl", "flyA", `fly\/A`, "fly/KA", `\\`, "fly/A"))
	for range 3 {
		expectFound(t, w, "fly", 0, 2, 6, 8)
		expectFound(t, w, "Fly", 1)
		expectFound(t, w, "fl", 3)
		expectFound(t, w, "flyA", 4)
		// A word is found as it is, not as the field writes it.
		expectFound(t, w, "fly/A", 5)
		expectFound(t, w, `\`, 7)
		for _, no := range []string{"", "f", "flyy", "FLY", "ly", " fly", "fly ", "fly\n", `fly\/A`, `\\`, "/A", "A", "0", "9", "\x00", "\xff", long(64), long(65), long(99999)} {
			expectFound(t, w, no)
		}
	}
	expectFound(t, read(t, f, "0"), "")
	expectFound(t, read(t, f, "0"), "fly")
}

func TestTheSameWordInSeveralEntries(t *testing.T) { // P12.2, P12.3
	f := file(t, "KEEPCASE K", "SFX A Y 0")
	text := rows("6", "a/A", "b", "a", "a/AK", "b", "a/A")
	expectEntries(t, f, text, entry("a", 'A'), entry("b"), entry("a"), entry("a", 'A', 'K'), entry("b"), entry("a", 'A'))
	w := read(t, f, text)
	expectFound(t, w, "a", 0, 2, 3, 5)
	expectFound(t, w, "b", 1, 4)

	many := strings.Repeat("a\n", 8000)
	w = read(t, f, "8000\n"+many)
	found := w.Find("a")
	if len(found) != 8000 || w.Len() != 8000 {
		t.Fatalf("%d of %d entries are found", len(found), w.Len())
	}
	for i, n := range found {
		if n != i {
			t.Fatalf("the number %d stands at the place %d", n, i)
		}
	}
}

func TestLen(t *testing.T) { // P12.2
	f := withA(t)
	for n := range 40 {
		text := fmt.Sprintf("%d\n%s", n, strings.Repeat("a\n#\n", n))
		if got := read(t, f, text).Len(); got != n {
			t.Errorf("Len of %d entries is %d", n, got)
		}
	}
}

func TestTheCallsOfANilWords(t *testing.T) { // P12.4, P1
	var w *dic.Words
	for _, word := range []string{"", "a", "fly", "\x00", long(65)} {
		expectFound(t, w, word)
	}
	if got := w.Entries(); len(got) != 0 {
		t.Errorf("Entries() = %v", got)
	}
	if got := w.Len(); got != 0 {
		t.Errorf("Len() = %d", got)
	}
}
