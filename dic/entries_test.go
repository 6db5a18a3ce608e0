package dic_test

import (
	"strings"
	"testing"

	"hornbook/aff"
	"hornbook/api"
)

func TestEscapes(t *testing.T) { // P12.1, P12.2
	f := withA(t)
	for field, word := range map[string]string{
		`in\/out`: "in/out", `\/`: "/", `\\`: `\`, `\#`: "#", `\#1\/2`: "#1/2", "a#b": "a#b", "a#": "a#", `\\\/`: `\/`, `\/\/\/`: "///", `a\\b`: `a\b`,
	} {
		expectEntries(t, f, "1\n"+field, entry(word))
		expectEntries(t, f, "1\n"+field+"/A\n", entry(word, 'A'))
		expectFound(t, read(t, f, "1\n"+field), word, 0)
	}
	for _, field := range []string{`\`, `a\`, `a\b`, `\0`, `a\\\`, `\A/A`, `a\b/A`, `\ä`, "\\\x00", `\[`, `\.`} {
		expectWrong(t, f, api.ErrEscape, field)
	}
	// Behind the slash a backslash means nothing.
	expectWrong(t, f, api.ErrUnknown, `a/\`)
	expectEntries(t, file(t, `SFX \ Y 0`), `1
a/\`, entry("a", '\\'))
	// A # that nothing stands ahead of begins a remark: the row isn't there.
	expectFault(t, f, 3, api.ErrCount, "1\n#a\n")
}

func TestWordBytes(t *testing.T) { // P12.1
	f := withA(t)
	expectWrong(t, f, api.ErrWord, "/")
	expectWrong(t, f, api.ErrWord, "/A")
	expectWrong(t, f, api.ErrWord, "//")
	for b := range 256 {
		s := string([]byte{byte(b)})
		switch {
		case strings.Contains(" \t\n\r/\\#", s): // these mean something in a line or a field
		case b < 33 || b == 127:
			for _, field := range []string{s, "a" + s, s + "a", "a" + s + "a", s + "/A", "a" + s + "b/A", long(63) + s} {
				expectWrong(t, f, api.ErrWord, field)
			}
		default:
			expectEntries(t, f, "1\n"+s, entry(s))
			expectEntries(t, f, "1\na"+s+"b/A\n", entry("a"+s+"b", 'A'))
		}
	}
	// A carriage return is cut off at the end of a line alone.
	expectEntries(t, f, "1\na\r\n", entry("a"))
	expectWrong(t, f, api.ErrWord, "a\r\r\n")
	expectWrong(t, f, api.ErrWord, "\ra\n")
	// The mark of a text's beginning is three word bytes elsewhere.
	expectEntries(t, f, "1\n\xef\xbb\xbfa", entry("\xef\xbb\xbfa"))
}

func TestSizes(t *testing.T) { // P12.1
	f := withA(t)
	for _, behind := range []string{"", "/A"} {
		for _, n := range []int{1, 2, api.MaxWord - 1, api.MaxWord} {
			w := read(t, f, "1\n"+long(n)+behind)
			expectFound(t, w, long(n), 0)
		}
		for _, n := range []int{api.MaxWord + 1, api.MaxWord + 2, 255, 256, 257, 65000} {
			expectWrong(t, f, api.ErrSize, long(n)+behind)
		}
		// What is read is measured, not what stands in the field.
		expectFound(t, read(t, f, "1\n"+strings.Repeat(`\/`, api.MaxWord)+behind), strings.Repeat("/", api.MaxWord), 0)
		expectWrong(t, f, api.ErrSize, strings.Repeat(`\/`, api.MaxWord+1)+behind)
		expectFound(t, read(t, f, "1\n"+strings.Repeat("ä", api.MaxWord/2)+behind), strings.Repeat("ä", api.MaxWord/2), 0)
		expectWrong(t, f, api.ErrSize, strings.Repeat("ä", api.MaxWord/2+1)+behind)
	}
}

func TestTheOrderOfAnEntrysFaults(t *testing.T) { // P12.1, rule 1
	f := withA(t)
	for _, c := range []struct {
		row  string
		code api.Errno
	}{
		{long(65) + "\x01\\b/B, c", api.ErrFields},
		{"\x01\\b /", api.ErrFields},
		{long(65) + "\x01\\b/B", api.ErrEscape},
		{"\x01\\", api.ErrEscape},
		{long(65) + "\\/" + "\\A/,", api.ErrEscape},
		{long(65) + "\x01/B", api.ErrWord},
		{"\x7f" + long(65) + "/,", api.ErrWord},
		{"/,", api.ErrWord},
		{"/B", api.ErrWord},
		{"/\\", api.ErrWord},
		{long(65) + "/,", api.ErrSize},
		{long(65) + "/B", api.ErrSize},
		{long(65) + "/\\b", api.ErrSize},
		{"a/B,", api.ErrFlag},
		{"a/" + strings.Repeat("B", 65), api.ErrMany},
		{"a/" + strings.Repeat("B", 64), api.ErrUnknown},
		{"a/AB", api.ErrUnknown},
	} {
		expectWrong(t, f, c.code, c.row)
		expectFault(t, f, 4, c.code, rows("3", "a", "b/A", c.row, "c d"))
	}
}

func TestShortFlags(t *testing.T) { // P12.1, P12.2
	f := file(t, "KEEPCASE K", "SFX A Y 0", "PFX B N 0")
	expectFlags(t, f, "A", 'A')
	expectFlags(t, f, "KBA", 'A', 'B', 'K')
	expectFlags(t, f, "BABAKKA", 'A', 'B', 'K')
	expectFlags(t, f, strings.Repeat("AB", 32), 'A', 'B')
	for _, s := range []string{"", "A,B", "A/B", "/", "A/", "A#", "\x7f", "\x01", "ä", "A\xff"} {
		expectWrong(t, f, api.ErrFlag, "fly/"+s)
	}
	expectWrong(t, f, api.ErrMany, "fly/"+strings.Repeat("A", 65))
	expectWrong(t, f, api.ErrMany, "fly/"+strings.Repeat("X", 65))
	for _, s := range []string{"C", "AC", "CA", "a", "k", "BAKC", "1", "~", "!"} {
		expectWrong(t, f, api.ErrUnknown, "fly/"+s)
	}
}

func TestLongFlags(t *testing.T) { // P12.1, P12.2
	f := file(t, "FLAG long", "NOSUGGEST zz", "SFX Ab Y 0", "PFX bA N 0")
	expectFlags(t, f, "zzAb", 16738, 31354)
	expectFlags(t, f, "bAAbbA", 16738, 'b'*256+'A')
	for _, s := range []string{"", "A", "Abz", "Ab,zz", "A/", "Ab#"} {
		expectWrong(t, f, api.ErrFlag, "fly/"+s)
	}
	expectWrong(t, f, api.ErrMany, "fly/"+strings.Repeat("Ab", 65))
	for _, s := range []string{"AA", "AbbB", "zA", "bbAA"} {
		expectWrong(t, f, api.ErrUnknown, "fly/"+s)
	}
}

func TestNumberFlags(t *testing.T) { // P12.1, P12.2
	f := file(t, "FLAG num", "COMPOUNDFLAG 65535", "SFX 300 Y 0", "PFX 7 N 0")
	expectFlags(t, f, "300", 300)
	expectFlags(t, f, "65535,300,7", 7, 300, 65535)
	expectFlags(t, f, "7,300,7,300,7", 7, 300)
	for _, s := range []string{"", "0", "7,", ",7", "7,,300", "07", "65536", "7.", "a", "7,0", "7/300", "7#"} {
		expectWrong(t, f, api.ErrFlag, "fly/"+s)
	}
	expectWrong(t, f, api.ErrMany, "fly/"+strings.Repeat("7,", 64)+"7")
	expectFlags(t, f, strings.Repeat("7,", 63)+"7", 7)
	for _, s := range []string{"1", "7,8", "8,7", "70", "30", "3,300", "65534"} {
		expectWrong(t, f, api.ErrUnknown, "fly/"+s)
	}
}

func TestAliases(t *testing.T) { // P12.1, P12.2
	f := file(t, "AF 4", "AF BA", "AF K", "AF AC", "AF AKA", "KEEPCASE K", "SFX A Y 0", "PFX B N 0")
	expectFlags(t, f, "1", 'A', 'B')
	expectFlags(t, f, "2", 'K')
	expectFlags(t, f, "4", 'A', 'K')
	// An alias may hold a flag that nothing defines; an entry may not have it.
	expectWrong(t, f, api.ErrUnknown, "fly/3")
	for _, s := range []string{"", "0", "5", "01", "1,2", "A", "BA", "K", "1/", "/1", "+1", "-1", "12", "18446744073709551617", strings.Repeat("A", 65)} {
		expectWrong(t, f, api.ErrNumber, "fly/"+s)
	}
	for _, kind := range []string{"long", "num"} {
		written := map[string]string{"long": "zzAA", "num": "31354,16705"}[kind]
		class := map[string]string{"long": "AA", "num": "16705"}[kind]
		special := map[string]string{"long": "zz", "num": "31354"}[kind]
		f := file(t, "FLAG "+kind, "AF 1", "AF "+written, "FORBIDDENWORD "+special, "SFX "+class+" Y 0")
		expectFlags(t, f, "1", 16705, 31354)
		expectWrong(t, f, api.ErrNumber, "fly/"+written)
		expectWrong(t, f, api.ErrNumber, "fly/2")
	}
	// A count of 0 makes no aliases.
	expectFlags(t, file(t, "AF 0", "SFX 1 Y 0"), "1", '1')
}

func TestEachFlagThatTheFileDefines(t *testing.T) { // P12.1
	headings := []string{"NEEDAFFIX a", "FORBIDDENWORD b", "KEEPCASE c", "COMPOUNDFLAG d", "NOSUGGEST e", "PFX f Y 0", "SFX g N 0", "PFX h N 1\nPFX h 0 h", "SFX i Y 1\nSFX i 0 i"}
	every := file(t, headings...)
	for i, heading := range headings {
		flag := string(rune('a' + i))
		alone := file(t, heading)
		for _, f := range []*aff.File{alone, every} {
			expectFlags(t, f, flag, api.Flag(flag[0]))
			expectFlags(t, f, flag+flag, api.Flag(flag[0]))
		}
		for j := range headings {
			if other := string(rune('a' + j)); other != flag {
				expectWrong(t, alone, api.ErrUnknown, "fly/"+other)
				expectWrong(t, alone, api.ErrUnknown, "fly/"+flag+other)
				expectWrong(t, alone, api.ErrUnknown, "fly/"+other+flag)
			}
		}
		expectWrong(t, every, api.ErrUnknown, "fly/j"+flag)
		expectWrong(t, file(t), api.ErrUnknown, "fly/"+flag)
	}
	expectFlags(t, every, "ihgfedcba", 'a', 'b', 'c', 'd', 'e', 'f', 'g', 'h', 'i')
}

func TestOnlyWhatIsDefinedIsKnown(t *testing.T) { // P12.1
	// Other letters of the file define nothing.
	f := file(t, "NEEDAFFIX N", "REP 1", "REP R S", "TRY L", "PFX P Y 0", "SFX Q Y 1", "SFX Q T U/N V")
	for b := 33; b < 127; b++ {
		flag := string(rune(b))
		switch {
		case strings.Contains("/,#", flag):
			expectWrong(t, f, api.ErrFlag, "fly/"+flag)
		case strings.Contains("NPQ", flag):
			expectFlags(t, f, flag, api.Flag(b))
		default:
			expectWrong(t, f, api.ErrUnknown, "fly/"+flag)
		}
	}
	// Nor does an alias.
	expectWrong(t, file(t, "AF 1", "AF Z"), api.ErrUnknown, "fly/1")
}

func TestNoFlags(t *testing.T) { // P12.2
	for _, f := range []*aff.File{file(t), withA(t), file(t, "FLAG num"), file(t, "AF 1", "AF A")} {
		expectEntries(t, f, "3\nfly\nin\\/A\na\\/\n", entry("fly"), entry("in/A"), entry("a/"))
	}
}

func TestEntriesInTheOrderOfTheirRows(t *testing.T) { // P12.2
	f := file(t, "SFX A Y 0", "SFX B Y 0")
	expectEntries(t, f, "# count\r\n 5\t# five\r\n\r\nz/BA\r\n\tb\r\n#c\r\na/B # c\r\nz\r\n\r\nA/AB",
		entry("z", 'A', 'B'), entry("b"), entry("a", 'B'), entry("z"), entry("A", 'A', 'B'))
	// An entry may look like a number, or like a row of the other file.
	expectEntries(t, f, "4\n4\n0/A\nSFX\n-1\n", entry("4"), entry("0", 'A'), entry("SFX"), entry("-1"))
}
