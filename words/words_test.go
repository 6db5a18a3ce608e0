package words_test

import (
	"strings"
	"testing"

	"hornbook/api"
	"hornbook/words"
)

func TestWordsAreValid(t *testing.T) { // P2.1
	for _, w := range []string{
		"a", "o'clock", "Zoë", "x-ray", "1", "!", "~", "\x80", "\xff", "\xa0",
		"/", "\\", "#", "/\\#", "\xef\xbb\xbf", "\xc3",
		strings.Repeat("a", api.MaxWord), strings.Repeat("\xff", api.MaxWord),
	} {
		if !words.Valid(w) {
			t.Errorf("%q is no word", w)
		}
	}
}

func TestOtherTextsAreNotValid(t *testing.T) { // P2.1
	for _, w := range []string{
		"", " ", "a b", "a ", " a", "\t", "a\n", "a\r", "\x00", "a\x00", "a\x1f", "\x7f", "a\x7f", "\x7fa",
		strings.Repeat("a", api.MaxWord+1), strings.Repeat("a", api.MaxText), strings.Repeat("ä", api.MaxWord/2) + "a",
		strings.Repeat("a", api.MaxWord-1) + " ",
	} {
		if words.Valid(w) {
			t.Errorf("%q is a word", w)
		}
	}
}

func TestEveryByteIsAWordByteOrNot(t *testing.T) { // P2.1, P2.6
	for b := range 256 {
		one := string([]byte{byte(b)})
		want := b >= 33 && b <= 255 && b != 127
		for _, w := range []string{one, "a" + one, one + "a", "a" + one + "b"} {
			if words.Valid(w) != want {
				t.Errorf("Valid(%q) = %v", w, !want)
			}
			if _, e := words.Letters(w); (e == api.OK) != want {
				t.Errorf("Letters(%q) = %d", w, e)
			}
		}
	}
}

func TestReadTakesTheBytesAsTheyStand(t *testing.T) { // P2.2
	for _, field := range []string{"", "a", "walk", "a b", "#", "a#b", "#a", "\x00\x7f\xff ", "\t\r\n", "ä", strings.Repeat("a", api.MaxText+1)} {
		expectRead(t, field, field, "", false)
	}
}

func TestReadTakesTheByteBehindABackslash(t *testing.T) { // P2.2
	for _, c := range []struct{ field, word string }{
		{`\\`, `\`},
		{`\/`, `/`},
		{`\#`, `#`},
		{`\\\\`, `\\`},
		{`\\\/`, `\/`},
		{`\/\/`, `//`},
		{`\#a b`, `#a b`},
		{`in\/out`, `in/out`},
		{`\\a`, `\a`},
		{`a\\`, `a\`},
		{`1\/2#\#`, `1/2##`},
	} {
		expectRead(t, c.field, c.word, "", false)
	}
}

func TestReadEndsAtASlash(t *testing.T) { // P2.2
	for _, c := range []struct{ field, word, rest string }{
		{`/`, ``, ``},
		{`//`, ``, `/`},
		{`a/`, `a`, ``},
		{`/a`, ``, `a`},
		{`in\/out/AB`, `in/out`, `AB`},
		{`a/b/c\`, `a`, `b/c\`},
		{`\\/x`, `\`, `x`},
		{`\//x`, `/`, `x`},
		{`a/\`, `a`, `\`},
		{`a/\b`, `a`, `\b`},
		{`a/\/\\\#`, `a`, `\/\\\#`},
		{`a/ #x`, `a`, ` #x`},
		{"a/\x00\xff", `a`, "\x00\xff"},
		{"a b/\n", "a b", "\n"},
	} {
		expectRead(t, c.field, c.word, c.rest, true)
	}
}

func expectRead(t *testing.T, field, word, rest string, cut bool) {
	t.Helper()
	w, r, c, e := words.Read(field)
	if w != word || r != rest || c != cut || e != api.OK {
		t.Errorf("Read(%.80q) = %.80q, %.80q, %v, %d; want %.80q, %.80q, %v", field, w, r, c, e, word, rest, cut)
	}
}

func TestReadRefusesABackslashWithNothingFitBehindIt(t *testing.T) { // P2.2, rule 2
	for _, field := range []string{
		`\`, `a\`, `a\b`, `\a/b`, `\\\`, `\/\`, `\#\`, `\ `, "\\\x00", "\\\xff", "\\\n", `\"`, `\0`, `\|`, `\.`, `a\bc/d`, `a\/b\c/d`,
	} {
		if w, r, c, e := words.Read(field); w != "" || r != "" || c || e != api.ErrEscape {
			t.Errorf("Read(%q) = %q, %q, %v, %d", field, w, r, c, e)
		}
	}
}

func TestReadKnowsThreeEscapedBytes(t *testing.T) { // P2.2
	for b := range 256 {
		one := string([]byte{byte(b)})
		w, _, _, e := words.Read(`\` + one)
		fit := strings.Contains(`\/#`, one)
		if fit && (w != one || e != api.OK) || !fit && e != api.ErrEscape {
			t.Errorf("Read of a backslash and %q = %q, %d", one, w, e)
		}
	}
}

func TestWritePutsBackslashes(t *testing.T) { // P2.3
	for _, c := range []struct{ w, want string }{
		{``, ``},
		{`walk`, `walk`},
		{`#1/2`, `\#1\/2`},
		{`\`, `\\`},
		{`/`, `\/`},
		{`#`, `\#`},
		{`a#`, `a\#`},
		{`\/#`, `\\\/\#`},
		{`\\//##`, `\\\\\/\/\#\#`},
		{"a b\t\n\x00\x7f\xff", "a b\t\n\x00\x7f\xff"},
		{strings.Repeat("/", api.MaxText), strings.Repeat(`\/`, api.MaxText)},
	} {
		if got := words.Write(c.w); got != c.want {
			t.Errorf("Write(%.80q) = %.80q; want %.80q", c.w, got, c.want)
		}
	}
}

func TestCommonCountsWhatBothBeginWith(t *testing.T) { // P2.4
	for _, c := range []struct {
		a, b string
		want int
	}{
		{"", "", 0},
		{"", "a", 0},
		{"a", "b", 0},
		{"a", "a", 1},
		{"walk", "wall", 3},
		{"ab", "abc", 2},
		{"abc", "xbc", 0},
		{"abcd", "abxd", 2},
		{"ä", "ö", 1},
		{"\x00\xff", "\x00\xfe", 1},
		{strings.Repeat("a", api.MaxText+1), strings.Repeat("a", api.MaxText+2), api.MaxText + 1},
	} {
		if got := words.Common(c.a, c.b); got != c.want {
			t.Errorf("Common(%.40q, %.40q) = %d; want %d", c.a, c.b, got, c.want)
		}
		if got := words.Common(c.b, c.a); got != c.want {
			t.Errorf("Common(%.40q, %.40q) = %d; want %d", c.b, c.a, got, c.want)
		}
	}
}

func TestReverseTurnsTheBytes(t *testing.T) { // P2.5
	for _, c := range []struct{ w, want string }{
		{"", ""},
		{"a", "a"},
		{"ab", "ba"},
		{"abc", "cba"},
		{"noon", "noon"},
		{"a b/", "/b a"},
		{"ä", "\xa4\xc3"},
		{"\x00\x7f\xff", "\xff\x7f\x00"},
		{"a" + strings.Repeat("b", api.MaxText), strings.Repeat("b", api.MaxText) + "a"},
	} {
		if got := words.Reverse(c.w); got != c.want {
			t.Errorf("Reverse(%.40q) = %.40q; want %.40q", c.w, got, c.want)
		}
	}
}

func TestLettersTakesEachByteOnce(t *testing.T) { // P2.6
	every := ""
	for b := 33; b < 256; b++ {
		if b != 127 {
			every += string([]byte{byte(b)})
		}
	}
	for _, c := range []struct{ s, want string }{
		{"a", "a"},
		{"aa", "a"},
		{"noon", "no"},
		{"banana", "ban"},
		{"aAa", "aA"},
		{"zyxzyx", "zyx"},
		{"esianrtolcdugmphbyfvkwzESI", "esianrtolcdugmphbyfvkwzESI"},
		{"!~\x80\xff!\xff", "!~\x80\xff"},
		{`\/#/\`, `\/#`},
		{"äö", "\xc3\xa4\xb6"},
		{every, every},
		{every + words.Reverse(every), every},
		{strings.Repeat("ab", api.MaxText), "ab"},
		{strings.Repeat("a", api.MaxText) + "b", "ab"},
	} {
		if got, e := words.Letters(c.s); got != c.want || e != api.OK {
			t.Errorf("Letters(%.40q) = %q, %d; want %q", c.s, got, e, c.want)
		}
	}
}

func TestLettersRefusesWhatIsNoWordByte(t *testing.T) { // P2.6, rule 2
	for _, s := range []string{"", " ", "a b", "ab ", " ab", "ab\x7f", "\x00", "a\nb", "\x1f", strings.Repeat("a", api.MaxText) + "\t"} {
		if got, e := words.Letters(s); got != "" || e != api.ErrWord {
			t.Errorf("Letters(%.40q) = %q, %d", s, got, e)
		}
	}
}
