package cond_test

import (
	"strings"
	"testing"

	"hornbook/api"
	"hornbook/cond"
)

func TestShow(t *testing.T) { // P4.4
	for _, c := range []struct{ s, want string }{
		{".", "."}, {"..", ".."}, {"a.", "a."}, {".a", ".a"},
		{"ab", "ab"}, {"[a]", "a"}, {"[aa]", "a"}, {"[ba]b[b]", "[ab]bb"}, {"[cab]", "[abc]"},
		{"[.]", "[.]"}, {"[..]", "[.]"}, {"a[.]", "a[.]"}, {"[.a]", "[.a]"}, {"[a.]", "[.a]"},
		{"[[]", "[[]"}, {"[[[]", "[[]"}, {"[[a]", "[[a]"}, {"[a[]", "[[a]"}, {"[[.]", "[.[]"},
		{"]", "]"}, {"a]", "a]"}, {"[^" + allBut("]") + "]", "]"},
		{"^", "^"}, {"^^", "^^"}, {"[a^]", "[a^]"}, {"[a^a]", "[a^]"}, {"[Z^]", "[Z^]"}, {"[a^Z]", "[Za^]"}, {"[Z^a]", "[Za^]"}, {"[[^]", "[[^]"}, {"[.^]", "[.^]"},
		{"[^a]", "[^a]"}, {"[^ba]", "[^ab]"}, {"[^aa]", "[^a]"}, {"[^^]", "[^^]"}, {"[^^a]", "[^^a]"}, {"[^a^]", "[^^a]"}, {"[^a^Z]", "[^Z^a]"}, {"[^.]", "[^.]"}, {"[^[]", "[^[]"},
		{"-", "-"}, {"[-]", "-"}, {"[c-a]", "[-ac]"}, {"[^c-a]", "[^-ac]"},
		{"[\xff\x00]", "[\x00\xff]"}, {"[^\xff\x00]", "[^\x00\xff]"}, {"\xff[\x00]", "\xff\x00"}, {"[ä]", "[\xa4\xc3]"},
		{"[" + allBut("]") + "]", "[" + allBut("]^") + "^]"},
		{"[" + allBut("]^") + "]", "[" + allBut("]^") + "]"},
		{"[^" + allBut("]^") + "]", "[^" + allBut("]^") + "]"},
		{"[^" + allBut("]a") + "]", "[^" + allBut("]a") + "]"},
	} {
		expectShow(t, c.s, c.want)
	}
	var zero cond.Pattern
	if zero.Show() != "." {
		t.Errorf("the zero Pattern shows %q", zero.Show())
	}
}

func TestShowOfOneByteAlone(t *testing.T) { // P4.4
	for b := range 256 {
		one := string([]byte{byte(b)})
		want := one
		switch one {
		case ".":
			want = "[.]"
		case "[":
			want = "[[]"
		}
		if one == "]" || one == "^" {
			expectShow(t, one, one)
		} else {
			expectShow(t, "["+one+"]", want)
			expectShow(t, "z["+one+"]", "z"+want)
		}
	}
}

func expectShow(t *testing.T, s, want string) {
	t.Helper()
	p := read(t, s)
	if got := p.Show(); got != want || len(got) > len(s) {
		t.Errorf("Read(%.40q).Show() = %.40q; want %.40q", s, got, want)
	}
	if again := read(t, want); !again.Equal(p) || again.Show() != want {
		t.Errorf("Show(%.40q) reads as another pattern: %.40q", s, again.Show())
	}
}

func TestShowOfTheLongest(t *testing.T) { // P4.4
	expectShow(t, strings.Repeat("[^"+strings.Repeat("ab", 14)+"]", api.MaxItems), strings.Repeat("[^ab]", api.MaxItems))
	// Joined patterns may have a longer text than one that is read.
	list := "[" + allBut("]^") + "^]"
	p := read(t, list)
	q, e := cond.Join(p, p, p)
	if e != api.OK || q.Show() != strings.Repeat(list, 3) {
		t.Errorf("three lists of nearly all bytes: %.40q, %d", q.Show(), e)
	}
}

func TestEqual(t *testing.T) { // P4.5
	// Within a row all are equal; of two rows none are.
	rows := [][]string{
		{"."},
		{".."},
		{"..."},
		{"a", "[a]", "[aa]"},
		{"aa", "[a]a", "[aa][aaa]"},
		{"ab", "[a]b"},
		{"ba"},
		{"[ab]", "[ba]", "[abab]"},
		{"[^ab]", "[^bab]"},
		{"[^a]"},
		{".a"},
		{"a."},
		{"[.]", "[..]"},
		{"]", "[^" + allBut("]") + "]"},
		{"[a^]", "[a^a]"},
		{"[^^a]", "[^a^]"},
		{"\x00", "[\x00]"},
		{"\x00\x00"},
		{"\x40"},
		{"\x80"},
		{"\xc0"},
		{strings.Repeat("a", api.MaxItems), strings.Repeat("[a]", api.MaxItems)},
		{strings.Repeat("a", api.MaxItems-1) + "b"},
		{"b" + strings.Repeat("a", api.MaxItems-1)},
		{strings.Repeat("a", api.MaxItems-1)},
	}
	for i, row := range rows {
		for j, other := range rows {
			for _, s := range row {
				for _, u := range other {
					if got := read(t, s).Equal(read(t, u)); got != (i == j) {
						t.Errorf("%.40q and %.40q: Equal %v", s, u, got)
					}
				}
			}
		}
	}
}

func TestEqualTellsEveryByteApart(t *testing.T) { // P4.5
	whole := read(t, "["+allBut("]^")+"]")
	for _, b := range []byte(allBut("]^")) {
		less := read(t, "["+allBut("]^"+string([]byte{b}))+"]")
		if whole.Equal(less) || less.Equal(whole) || !less.Equal(less) {
			t.Errorf("without %q", b)
		}
	}
}

func TestEqualOfTheZeroPattern(t *testing.T) { // P4.5
	var zero cond.Pattern
	if !zero.Equal(cond.Pattern{}) || !zero.Equal(read(t, ".")) || !read(t, ".").Equal(zero) {
		t.Errorf("the zero Pattern is not the one without items")
	}
	if zero.Equal(read(t, "..")) || read(t, "a").Equal(zero) || zero.Equal(read(t, "\x00")) {
		t.Errorf("the zero Pattern is equal to one with items")
	}
	if refused, _ := cond.Read("a["); !refused.Equal(zero) {
		t.Errorf("what a refused text answers is not the zero Pattern")
	}
}

func TestJoin(t *testing.T) { // P4.6
	for _, c := range []struct {
		texts []string
		want  string
	}{
		{nil, "."},
		{[]string{"."}, "."},
		{[]string{".", "."}, "."},
		{[]string{"a"}, "a"},
		{[]string{"[^aeiou]y"}, "[^aeiou]y"},
		{[]string{"a", "b"}, "ab"},
		{[]string{"b", "a"}, "ba"},
		{[]string{".", "a"}, "a"},
		{[]string{"a", "."}, "a"},
		{[]string{"a", ".", "b"}, "ab"},
		{[]string{"..", "a"}, "..a"},
		{[]string{"[ab]c", "[^d].", "[.]"}, "[ab]c[^d].[.]"},
	} {
		got, e := cond.Join(readAll(t, c.texts...)...)
		if want := read(t, c.want); e != api.OK || !got.Equal(want) || got.Len() != want.Len() || got.Show() != c.want {
			t.Errorf("Join(%q) = %q, %d", c.texts, got.Show(), e)
		}
	}
}

func TestJoinAsksByTheJoinedItems(t *testing.T) { // P4.6
	q, _ := cond.Join(readAll(t, "[^aeiou]y", ".", "[^aeiou]y")...)
	expectAdmits(t, q, allBut("aeiou"), "y", allBut("aeiou"), "y")
	expectMatch(t, q, "lyly", true, true)
	expectMatch(t, q, "lyay", false, false)
	expectMatch(t, q, "lylyz", true, false)
	expectMatch(t, q, "zlyly", false, true)
	expectMatch(t, q, "yly", false, false)
}

func TestJoinTakesNoMoreThanTheMostItems(t *testing.T) { // P4.6
	const most = api.MaxItems
	letters := "abcdefghijklmnopq"
	for n := range most + 1 {
		// Just as many as there may be, cut at every place; and one more.
		pair := readAll(t, orNone(letters[:n]), orNone(letters[n:most]))
		if q, e := cond.Join(pair...); e != api.OK || q.Show() != letters[:most] {
			t.Errorf("Join at %d: %q, %d", n, q.Show(), e)
		}
		expectNotJoin(t, readAll(t, orNone(letters[:n]), orNone(letters[n:most]), letters[most:])...)
		expectNotJoin(t, append(readAll(t, letters[most:]), pair...)...)
	}
	full := read(t, letters[:most])
	expectNotJoin(t, full, full)
	expectNotJoin(t, full, cond.Pattern{}, read(t, ".."))
	var ones, many []cond.Pattern
	for range most {
		ones = append(ones, read(t, "a"))
	}
	if q, e := cond.Join(ones...); e != api.OK || q.Show() != strings.Repeat("a", most) {
		t.Errorf("Join of the most = %q, %d", q.Show(), e)
	}
	expectNotJoin(t, append(ones, read(t, "a"))...)
	for range 9999 {
		many = append(many, full)
	}
	expectNotJoin(t, many...)
	if q, e := cond.Join(append(make([]cond.Pattern, 9999), full)...); e != api.OK || !q.Equal(full) {
		t.Errorf("Join of many without items = %q, %d", q.Show(), e)
	}
}

func orNone(s string) string {
	if s == "" {
		return "."
	}
	return s
}

func readAll(t *testing.T, texts ...string) []cond.Pattern {
	t.Helper()
	var ps []cond.Pattern
	for _, s := range texts {
		ps = append(ps, read(t, s))
	}
	return ps
}

func expectNotJoin(t *testing.T, ps ...cond.Pattern) {
	t.Helper()
	if q, e := cond.Join(ps...); e != api.ErrItems || !isNone(q) {
		t.Errorf("Join of %d = %q, %d; want none, ErrItems", len(ps), q.Show(), e)
	}
}
