package aff_test

import (
	"fmt"
	"slices"
	"strings"
	"testing"

	"hornbook/aff"
	"hornbook/api"
	"hornbook/flags"
)

func TestTheNumbersOfTheRules(t *testing.T) { // P11.2
	a := affixes(t,
		"PFX a Y 0", "SFX b N 2", "SFX b 0 b1", "SFX b 0 b2", "PFX c N 0", "SFX d Y 0", "PFX e Y 3", "PFX e 0 e1", "PFX e 0 e2", "PFX e 0 e3", "SFX f N 1", "SFX f 0 f1", "SFX g Y 0")
	want := []api.Class{
		{Flag: 'a', Kind: api.Prefix, Cross: true, First: 0, Count: 0},
		{Flag: 'b', Kind: api.Suffix, Cross: false, First: 0, Count: 2},
		{Flag: 'c', Kind: api.Prefix, Cross: false, First: 2, Count: 0},
		{Flag: 'd', Kind: api.Suffix, Cross: true, First: 2, Count: 0},
		{Flag: 'e', Kind: api.Prefix, Cross: true, First: 2, Count: 3},
		{Flag: 'f', Kind: api.Suffix, Cross: false, First: 5, Count: 1},
		{Flag: 'g', Kind: api.Suffix, Cross: true, First: 6, Count: 0},
	}
	if !slices.Equal(a.Classes, want) {
		t.Errorf("%v; want %v", a.Classes, want)
	}
	for _, c := range a.Classes {
		for n, r := range a.Rules[c.First : c.First+c.Count] {
			// What a rule adds tells here where it stood.
			if r.Add != fmt.Sprintf("%c%d", c.Flag, n+1) || r.Kind != c.Kind || r.Flag != c.Flag || r.Cross != c.Cross {
				t.Errorf("rule %d of %v: %v", n, c, r)
			}
		}
	}
	if len(a.Rules) != 6 {
		t.Errorf("%d rules", len(a.Rules))
	}
}

func TestNextAndAliasesAreRising(t *testing.T) { // P11.2
	a := affixes(t, "FLAG num", "AF 2", "AF 9,300,10,9", "AF 10", "SFX 300 Y 1", "SFX 300 0 s/1", "SFX 9 Y 0", "SFX 10 Y 0")
	if !slices.Equal(a.Aliases[0], []api.Flag{9, 10, 300}) || !slices.Equal(a.Aliases[1], []api.Flag{10}) || !slices.Equal(a.Rules[0].Next, []api.Flag{9, 10, 300}) {
		t.Errorf("%v, %v", a.Aliases, a.Rules)
	}
	a = affixes(t, "SFX z Y 1", "SFX z 0 s/zaza", "SFX a Y 0")
	if !slices.Equal(a.Rules[0].Next, []api.Flag{'a', 'z'}) {
		t.Errorf("%v", a.Rules)
	}
}

func TestTheSameRowsInAnotherWriting(t *testing.T) { // P11.2
	want := affixes(t, "SET x", "REP 1", "REP a b", "SFX A Y 2", "SFX A y ies [ab]", "SFX A 0 s")
	got := affixes(t, "\xef\xbb\xbf  SET\t\tx  # y\r", "\r", "REP 1", "#", "\tREP a b", "SFX A Y 2\r", "SFX A y ies [bab]\r", " SFX A 0 s .")
	if !same(got, want) {
		t.Errorf("%s; want %s", shown(got), shown(want))
	}
}

func TestClass(t *testing.T) { // P11.3
	f := read(t, "NEEDAFFIX n", "AF 1", "AF xy", "PFX p Y 0", "SFX s N 1", "SFX s 0 s", "SFX t Y 0")
	want := map[api.Flag]api.Class{
		'p': {Flag: 'p', Kind: api.Prefix, Cross: true},
		's': {Flag: 's', Kind: api.Suffix, Count: 1},
		't': {Flag: 't', Kind: api.Suffix, Cross: true, First: 1},
	}
	for n := range 65536 {
		c, ok := f.Class(api.Flag(n))
		if known, isClass := want[api.Flag(n)]; c != known || ok != isClass {
			t.Errorf("Class(%d) = %v, %v", n, c, ok)
		}
	}
	for _, none := range []*aff.File{read(t), read(t, "NEEDAFFIX n", "AF 1", "AF n")} {
		for n := range 65536 {
			if c, ok := none.Class(api.Flag(n)); c != (api.Class{}) || ok {
				t.Fatalf("Class(%d) of no classes = %v, %v", n, c, ok)
			}
		}
	}
}

func TestClassOfEachOfMany(t *testing.T) { // P11.2, P11.3
	text := []string{"FLAG num"}
	const many = 4000
	for n := range many {
		text = append(text, fmt.Sprintf("%s %d Y 0", []string{"PFX", "SFX"}[n%2], many-n))
	}
	f := read(t, text...)
	for n := range many {
		want := api.Class{Flag: api.Flag(many - n), Kind: []int{api.Prefix, api.Suffix}[n%2], Cross: true}
		if c, ok := f.Class(api.Flag(many - n)); c != want || !ok {
			t.Errorf("Class(%d) = %v, %v", many-n, c, ok)
		}
	}
	if c, ok := f.Class(many + 1); ok || c != (api.Class{}) {
		t.Errorf("Class(%d) = %v, %v", many+1, c, ok)
	}
	if all := f.Affixes().Classes; len(all) != many || all[0].Flag != many || all[many-1].Flag != 1 {
		t.Errorf("%d classes, %v", len(all), all[:min(3, len(all))])
	}
}

// expectFlags: the text writes this set.
func expectFlags(t *testing.T, f *aff.File, s string, want ...api.Flag) {
	t.Helper()
	if got, e := f.Flags(s); e != api.OK || !slices.Equal(got, want) {
		t.Errorf("Flags(%.40q) = %v, %d; want %v", s, got, e, want)
	}
}

func expectNoFlags(t *testing.T, f *aff.File, s string, want api.Errno) {
	t.Helper()
	if got, e := f.Flags(s); e != want || len(got) != 0 {
		t.Errorf("Flags(%.40q) = %v, %d; want none, %d", s, got, e, want)
	}
}

func expectWritten(t *testing.T, f *aff.File, want string, fs ...api.Flag) {
	t.Helper()
	if got, e := f.Write(fs...); e != api.OK || got != want {
		t.Errorf("Write(%v) = %q, %d; want %q", fs, got, e, want)
	}
}

func expectNotWritten(t *testing.T, f *aff.File, want api.Errno, fs ...api.Flag) {
	t.Helper()
	if got, e := f.Write(fs...); e != want || got != "" {
		t.Errorf("Write of %d flags = %q, %d; want none, %d", len(fs), got, e, want)
	}
}

func TestFlagsWithoutAliases(t *testing.T) { // P11.4
	for _, none := range []string{"SET x", "AF 0"} { // a count of 0 makes no aliases
		short, wide, numbers := read(t, none), read(t, "FLAG long", none), read(t, "FLAG num", none)
		// Whether they are defined makes no difference.
		expectFlags(t, short, "ba", 'a', 'b')
		expectFlags(t, short, "aba", 'a', 'b')
		expectFlags(t, short, "1", '1')
		expectFlags(t, wide, "zzAb", 16738, 31354)
		expectFlags(t, numbers, "300,7,300", 7, 300)
		expectFlags(t, numbers, "1", 1)
		for _, s := range []string{"", "a,", "a/", "#", "\x7f", " ", "ä"} {
			expectNoFlags(t, short, s, api.ErrFlag)
		}
		for _, s := range []string{"", "a", "abc"} {
			expectNoFlags(t, wide, s, api.ErrFlag)
		}
		for _, s := range []string{"", "0", "a", "7,", "65536"} {
			expectNoFlags(t, numbers, s, api.ErrFlag)
		}
		expectFlags(t, short, long(64), 'x')
		expectNoFlags(t, short, long(65), api.ErrMany)
		expectNoFlags(t, numbers, strings.Repeat("7,", 64)+"7", api.ErrMany)
	}
}

func TestFlagsWithAliases(t *testing.T) { // P11.4
	for _, kind := range []string{"short", "long", "num"} {
		one, two := map[string]string{"short": "a", "long": "aa", "num": "97"}[kind], map[string]string{"short": "cba", "long": "ccbbaa", "num": "99,98,97"}[kind]
		step := map[string]api.Flag{"short": 1, "long": 257, "num": 1}[kind]
		f := read(t, "FLAG "+kind, "AF 3", "AF "+one, "AF "+two, "AF "+one)
		expectFlags(t, f, "1", 'a'*step)
		expectFlags(t, f, "2", 'a'*step, 'b'*step, 'c'*step)
		expectFlags(t, f, "3", 'a'*step)
		for _, s := range []string{"0", "4", "", "01", "1,2", "-1", "+1", " 1", "1 ", "a", "aa", "97", "cba", "1.", "10", "4294967297", "18446744073709551617", strings.Repeat("1", 9999), long(65), "\x00"} {
			expectNoFlags(t, f, s, api.ErrNumber)
		}
	}
	var text []string
	for n := range api.MaxAliases {
		text = append(text, fmt.Sprintf("AF %d", n+1))
	}
	f := read(t, lists([]string{"FLAG num", "AF 1024"}, text)...)
	for n := 1; n <= api.MaxAliases; n++ {
		expectFlags(t, f, fmt.Sprint(n), api.Flag(n))
		expectWritten(t, f, fmt.Sprint(n), api.Flag(n))
	}
	expectNoFlags(t, f, "1025", api.ErrNumber)
	expectNotWritten(t, f, api.ErrFlag, 1025)
}

func TestWriteWithoutAliases(t *testing.T) { // P11.5
	for _, none := range []string{"SET x", "AF 0"} {
		short, wide, numbers := read(t, none), read(t, "FLAG long", none), read(t, "FLAG num", none)
		expectWritten(t, short, "ab", 'b', 'a', 'b')
		expectWritten(t, wide, "Abzz", 31354, 16738, 16738)
		expectWritten(t, numbers, "7,300", 300, 7, 300)
		for _, f := range []*aff.File{short, wide, numbers} {
			expectWritten(t, f, "")
			expectNotWritten(t, f, api.ErrFlag, 0)
		}
		expectNotWritten(t, short, api.ErrFlag, 'a', 300)
		expectNotWritten(t, short, api.ErrFlag, '/')
		expectNotWritten(t, wide, api.ErrFlag, 'a')
		expectNotWritten(t, numbers, api.ErrMany, distinct(65)...)
		expectNotWritten(t, short, api.ErrFlag, distinct(65)...)
		expectWritten(t, numbers, "1,2,3", slices.Repeat([]api.Flag{3, 1, 2, 3}, 500)...)
	}
}

// distinct: so many unlike flags.
func distinct(n int) []api.Flag {
	list := make([]api.Flag, n)
	for i := range list {
		list[i] = api.Flag(i + 1)
	}
	return list
}

func TestWriteWithAliases(t *testing.T) { // P11.5
	f := read(t, "FLAG num", "AF 6", "AF 300,7", "AF 7", "AF 7,300,7", "AF 300", "AF 7", "AF 1,2,3")
	// The first alias that is the set; order and repeats tell nothing.
	for range 3 {
		expectWritten(t, f, "1", 7, 300)
		expectWritten(t, f, "1", 300, 7)
		expectWritten(t, f, "1", 300, 7, 7, 300, 300)
		expectWritten(t, f, "2", 7)
		expectWritten(t, f, "2", 7, 7, 7)
		expectWritten(t, f, "4", 300)
		expectWritten(t, f, "6", 3, 1, 2)
		expectWritten(t, f, "6", slices.Repeat([]api.Flag{3, 1, 2, 3}, 500)...)
	}
	expectNotWritten(t, f, api.ErrFlag)
	expectNotWritten(t, f, api.ErrFlag, 0)
	expectNotWritten(t, f, api.ErrFlag, 1)
	expectNotWritten(t, f, api.ErrFlag, 1, 2)
	expectNotWritten(t, f, api.ErrFlag, 1, 2, 3, 4)
	expectNotWritten(t, f, api.ErrFlag, 0, 7)
	expectNotWritten(t, f, api.ErrFlag, 7, 300, 301)
	expectNotWritten(t, f, api.ErrFlag, distinct(65)...)
	expectNotWritten(t, f, api.ErrFlag, distinct(65535)...)
	// A set of another kind's flags too, which the file could not write.
	expectNotWritten(t, read(t, "AF 1", "AF a"), api.ErrFlag, 300)
}

func TestWhatFlagsReadsIsWrittenAgain(t *testing.T) { // P11.4, P11.5
	for _, f := range []*aff.File{read(t), read(t, "FLAG long"), read(t, "FLAG num"), read(t, "AF 3", "AF ab", "AF b", "AF a")} {
		for _, s := range []string{"a", "ab", "aabb", "abcd", "1", "2", "3", "1,2", "7,300", "4"} {
			set, e := f.Flags(s)
			if e != api.OK {
				continue
			}
			text, e := f.Write(set...)
			again, e2 := f.Flags(text)
			if e != api.OK || e2 != api.OK || !set.Equal(again) {
				t.Errorf("%q is %v, written as %q (%d), which is %v (%d)", s, set, text, e, again, e2)
			}
		}
	}
}

func TestTheCallsOfANilFile(t *testing.T) { // P11.2 to P11.5, P1
	var f *aff.File
	if a := f.Affixes(); !same(a, api.Affixes{}) {
		t.Errorf("%s", shown(a))
	}
	for _, flag := range []api.Flag{0, 1, 'A', 65535} {
		if c, ok := f.Class(flag); ok || c != (api.Class{}) {
			t.Errorf("Class(%d) = %v, %v", flag, c, ok)
		}
	}
	for _, s := range []string{"", "A", "1", "0", "A,", long(65)} {
		expectNoFlags(t, f, s, api.ErrNil)
	}
	for _, fs := range []flags.Set{nil, {}, {0}, {'A'}, {7, 300}, distinct(65)} {
		expectNotWritten(t, f, api.ErrNil, fs...)
	}
}
