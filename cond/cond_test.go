package cond_test

import (
	"math"
	"strings"
	"testing"

	"hornbook/api"
	"hornbook/cond"
)

// every: all bytes, rising.
func every() string {
	bytes := make([]byte, 256)
	for i := range bytes {
		bytes[i] = byte(i)
	}
	return string(bytes)
}

// allBut: all bytes but these, rising.
func allBut(these string) string {
	var bytes []byte
	for b := range 256 {
		if strings.IndexByte(these, byte(b)) < 0 {
			bytes = append(bytes, byte(b))
		}
	}
	return string(bytes)
}

func TestReadAnswersItems(t *testing.T) { // P4.1, P4.2
	for _, c := range []struct {
		s     string
		items []string
	}{
		{".", nil},
		{"..", []string{every(), every()}},
		{"...", []string{every(), every(), every()}},
		{".a", []string{every(), "a"}},
		{"a.", []string{"a", every()}},
		{"a", []string{"a"}},
		{"ab", []string{"a", "b"}},
		{"[^aeiou]y", []string{allBut("aeiou"), "y"}},
		{"[ba]b[b]", []string{"ab", "b", "b"}},
		{"[ab][^ab]", []string{"ab", allBut("ab")}},
		{"\x00\xff", []string{"\x00", "\xff"}},
		{"ä", []string{"\xc3", "\xa4"}},
		{"[ä]", []string{"\xa4\xc3"}},
		{`\[a]`, []string{`\`, "a"}},
		{"a*b+$|()", []string{"a", "*", "b", "+", "$", "|", "(", ")"}},
	} {
		expectItems(t, c.s, c.items...)
	}
}

func TestReadOutsideOfABracket(t *testing.T) { // P4.1
	expectItems(t, "]", "]")
	expectItems(t, "]]", "]", "]")
	expectItems(t, "^", "^")
	expectItems(t, "^a", "^", "a")
	expectItems(t, "^]", "^", "]")
	expectItems(t, "-", "-")
	expectItems(t, "[a]]", "a", "]")
	expectItems(t, "[a]b]", "a", "b", "]")
	expectItems(t, "a]^[b]^]", "a", "]", "^", "b", "^", "]")
	expectItems(t, "[^a]^]", allBut("a"), "^", "]")
}

func TestReadInsideOfABracket(t *testing.T) { // P4.1
	expectItems(t, "[[]", "[")
	expectItems(t, "[[[]", "[")
	expectItems(t, "[a[b]", "ab[")
	expectItems(t, "[.]", ".")
	expectItems(t, "[..]", ".")
	expectItems(t, "[a.]", ".a")
	expectItems(t, "[-]", "-")
	expectItems(t, "[a-c]", "-ac")
	expectItems(t, "[a-]", "-a")
	expectItems(t, "[^a-c]", allBut("-ac"))
	expectItems(t, "[a^]", "^a")
	expectItems(t, "[a^b]", "^ab")
	expectItems(t, "[^^]", allBut("^"))
	expectItems(t, "[^^^]", allBut("^"))
	expectItems(t, "[^^a]", allBut("^a"))
	expectItems(t, "[^a^]", allBut("^a"))
	expectItems(t, "[^.]", allBut("."))
	expectItems(t, "[^[]", allBut("["))
	expectItems(t, "[[^]", "[^")
	expectItems(t, `[\]`, `\`)
}

func TestReadOfLists(t *testing.T) { // P4.1
	expectItems(t, "[aa]", "a")
	expectItems(t, "[abab]", "ab")
	expectItems(t, "[^aba]", allBut("ab"))
	expectItems(t, "[a]", "a")
	expectItems(t, "[^a]", allBut("a"))
	most := allBut("]")
	expectItems(t, "["+most+"]", most)
	expectItems(t, "[^"+most+"]", "]")
	expectItems(t, "["+most+most+"]", most)
	// The byte ] closes a list of all bytes at its place.
	expectNotRead(t, "["+every()+"]", api.ErrItems)
	expectItems(t, "["+every()[:']'+1], every()[:']'])
}

func TestReadOfEveryByte(t *testing.T) { // P4.1
	for b := range 256 {
		one := string([]byte{byte(b)})
		if one != "." && one != "[" {
			expectItems(t, one, one)
			expectItems(t, one+"z", one, "z")
		}
		if one != "]" {
			expectItems(t, "[z"+one+"]", one+"z")
			expectItems(t, "[^"+one+"]", allBut(one))
		}
		if one != "]" && one != "^" {
			expectItems(t, "["+one+"]", one)
		}
	}
}

func TestReadRefusesNoneAndTooManyBytes(t *testing.T) { // P4.1
	expectNotRead(t, "", api.ErrPattern)
	list := strings.Repeat("ab", api.MaxPattern/2-1)
	expectItems(t, "["+list+"]", "ab")
	expectNotRead(t, "["+list+"a]", api.ErrPattern)
	expectItems(t, "[^"+list[1:]+"]", allBut("ab"))
	expectNotRead(t, "[^"+list+"]", api.ErrPattern)
	expectNotRead(t, strings.Repeat("a", api.MaxPattern), api.ErrItems)
	// Too many bytes are told ahead of everything else.
	for _, s := range []string{"a", ".", "[", "[]", "]", "^"} {
		expectNotRead(t, strings.Repeat(s, api.MaxPattern+1), api.ErrPattern)
	}
	expectNotRead(t, strings.Repeat("a", api.MaxPattern)+"[", api.ErrPattern)
}

func TestReadRefusesBrackets(t *testing.T) { // P4.1
	for _, s := range []string{
		"[", "[a", "[^", "[^a", "[[", "a[", "a[b", "[a][", "[a][b", ".[",
		"[]", "[^]", "[]a]", "[^]a]", "[]]", "[^]]", "a[]", "a[^]", "[a][]", "[]b", "[^]b", "[a[]]]]]][",
		"[" + strings.Repeat("a", api.MaxPattern-1), strings.Repeat("[", api.MaxPattern),
	} {
		expectNotRead(t, s, api.ErrClass)
	}
}

func TestReadTakesNoMoreThanTheMostItems(t *testing.T) { // P4.1
	const most = api.MaxItems
	for _, c := range []struct{ s, item string }{{"a", "a"}, {".", every()}, {"[ab]", "ab"}, {"[^ab]", allBut("ab")}, {"]", "]"}} {
		items := make([]string, most)
		for i := range items {
			items[i] = c.item
		}
		expectItems(t, strings.Repeat(c.s, most), items...)
		expectNotRead(t, strings.Repeat(c.s, most+1), api.ErrItems)
		expectNotRead(t, strings.Repeat(c.s, most)+"b", api.ErrItems)
		expectNotRead(t, strings.Repeat(c.s, api.MaxPattern/len(c.s)), api.ErrItems)
		// A bracket at fault is told ahead of too many items, wherever it stands.
		for _, wrong := range []string{"[", "[^]", "[]"} {
			expectNotRead(t, strings.Repeat(c.s, most)+wrong, api.ErrClass)
			expectNotRead(t, strings.Repeat(c.s, most+1)+wrong, api.ErrClass)
			expectNotRead(t, strings.Repeat(c.s, 2*most)+wrong, api.ErrClass)
		}
		expectNotRead(t, "[]"+strings.Repeat(c.s, most+1), api.ErrClass)
	}
}

// read: the pattern of a text that is one.
func read(t *testing.T, s string) cond.Pattern {
	t.Helper()
	p, e := cond.Read(s)
	if e != api.OK {
		t.Fatalf("Read(%.40q) = %d", s, e)
	}
	return p
}

// expectItems: each item is told by the bytes that it admits.
func expectItems(t *testing.T, s string, items ...string) {
	t.Helper()
	p, e := cond.Read(s)
	if e != api.OK {
		t.Errorf("Read(%.40q) = %d", s, e)
	}
	expectAdmits(t, p, items...)
}

func expectAdmits(t *testing.T, p cond.Pattern, items ...string) {
	t.Helper()
	if p.Len() != len(items) {
		t.Errorf("%.40q has %d items; want %d", p.Show(), p.Len(), len(items))
		return
	}
	for i, item := range items {
		for b := range 256 {
			if got, want := p.Admits(i, byte(b)), strings.IndexByte(item, byte(b)) >= 0; got != want {
				t.Errorf("%.40q: Admits(%d, %q) = %v", p.Show(), i, byte(b), got)
			}
		}
	}
}

func expectNotRead(t *testing.T, s string, want api.Errno) {
	t.Helper()
	if p, e := cond.Read(s); e != want || !isNone(p) {
		t.Errorf("Read(%.40q) = %q, %d; want none, %d", s, p.Show(), e, want)
	}
}

// isNone: is it the pattern without items?
func isNone(p cond.Pattern) bool {
	return p == cond.Pattern{} && p.Len() == 0 && p.Show() == "." && p.Equal(cond.Pattern{}) && p.Starts("") && p.Ends("")
}

func TestAdmitsNothingWhereThereIsNoItem(t *testing.T) { // P4.2, rule 5
	for _, s := range []string{".", "..", "a", "[^a]b", strings.Repeat(".", api.MaxItems)} {
		p := read(t, s)
		n := p.Len()
		for _, i := range []int{-1, n, n + 1, -2, -n - 1, api.MaxItems, api.MaxItems + 1, 256, 1 << 32, -1 << 32, math.MinInt, math.MaxInt} {
			for b := range 256 {
				if p.Admits(i, byte(b)) {
					t.Fatalf("%q admits %q at %d", s, byte(b), i)
				}
			}
		}
	}
}

func TestStartsAndEnds(t *testing.T) { // P4.3
	for _, c := range []struct {
		s, w         string
		starts, ends bool
	}{
		{"[^aeiou]y", "fly", false, true},
		{"[^aeiou]y", "day", false, false},
		{"[^aeiou]y", "y", false, false},
		{"[^aeiou]y", "", false, false},
		{"[^aeiou]y", "ly", true, true},
		{"[^aeiou]y", "ay", false, false},
		{"[^aeiou]y", "xyz", true, false},
		{"[^aeiou]y", "lyly", true, true},
		{"..", "a", false, false},
		{"..", "ab", true, true},
		{"..", "abc", true, true},
		{"ab", "ab", true, true},
		{"ab", "ba", false, false},
		{"ab", "b", false, false},
		{"ab", "a", false, false},
		{"ab", "abba", true, false},
		{"ab", "baab", false, true},
		{"ab", "xab", false, true},
		{"ab", "xabx", false, false},
		{"abc", "abxabc", false, true},
		{"abc", "abcxbc", true, false},
		{"[.]", "a.", false, true},
		{"[.]", ".a", true, false},
		{"\xff.", "\xff\x00", true, true},
		{"\xc3.", "ä", true, true},
	} {
		expectMatch(t, read(t, c.s), c.w, c.starts, c.ends)
	}
}

func TestStartsAndEndsAtTheMost(t *testing.T) { // P4.3
	const letters = "abcdefghijklmnop"
	p := read(t, letters)
	expectMatch(t, p, letters, true, true)
	expectMatch(t, p, letters[1:], false, false)
	expectMatch(t, p, letters[:api.MaxItems-1], false, false)
	expectMatch(t, p, letters+"z", true, false)
	expectMatch(t, p, "z"+letters, false, true)
	expectMatch(t, p, letters+strings.Repeat("z", 99999)+letters, true, true)
	for i := range letters {
		// Each item is asked, at its own place.
		expectMatch(t, p, letters[:i]+"z"+letters[i+1:], false, false)
	}
}

func TestWithoutItemsEveryWordFits(t *testing.T) { // P4.3
	var zero cond.Pattern
	joined, _ := cond.Join()
	for _, p := range []cond.Pattern{zero, joined, read(t, ".")} {
		for _, w := range []string{"", "a", ".", "[", "\x00", every(), strings.Repeat("a", 99999)} {
			expectMatch(t, p, w, true, true)
		}
	}
}

func expectMatch(t *testing.T, p cond.Pattern, w string, starts, ends bool) {
	t.Helper()
	if p.Starts(w) != starts || p.Ends(w) != ends {
		t.Errorf("%q, %.40q: Starts %v, Ends %v", p.Show(), w, p.Starts(w), p.Ends(w))
	}
}
