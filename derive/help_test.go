package derive_test

import (
	"fmt"
	"iter"
	"slices"
	"strings"
	"testing"

	"hornbook/api"
	"hornbook/derive"
	"hornbook/tables"
)

// long: a text of so many letters.
func long(n int) string { return strings.Repeat("x", n) }

// rows: a text with these lines.
func rows(list ...string) string { return strings.Join(list, "\n") + "\n" }

// list: the dictionary with these entries, their count ahead.
func list(entries ...string) string {
	return rows(slices.Insert(entries, 0, fmt.Sprint(len(entries)))...)
}

// class: so many rules of a class, made by what is written behind its flag.
func class(heading string, count int, rule func(n int) string) string {
	key := strings.Join(strings.Fields(heading)[:2], " ")
	lines := []string{fmt.Sprintf("%s %d", heading, count)}
	for n := range count {
		lines = append(lines, key+" "+rule(n))
	}
	return rows(lines...)
}

// read: the tables of two texts that must be taken.
func read(t *testing.T, affixes, words string) *tables.Tables {
	t.Helper()
	u, fault := tables.Read(affixes, words)
	if u == nil || fault != (api.Fault{}) {
		t.Fatalf("Read(%.300q, %.90q) = %v, %v; they must be taken", affixes, words, u, fault)
	}
	return u
}

// example: the chapter's.
func example(t *testing.T) *tables.Tables {
	t.Helper()
	return read(t, "NEEDAFFIX N\nSFX A Y 2\nSFX A 0 s\nSFX A 0 er/BN\nPFX P Y 1\nPFX P 0 re d\nSFX B N 1\nSFX B 0 s\n", "2\ndo/AP\nfit/NP\n")
}

// The texts of the whole's examples.
const (
	wholeAffixes = "FORBIDDENWORD F\nNEEDAFFIX N\nCOMPOUNDFLAG C\nTRY esy\nREP 1\nREP f ph\nSFX S Y 2\nSFX S 0 s [^sy]\nSFX S y ies [^aeiou]y\nSFX E Y 1\nSFX E 0 er/S .\nPFX U Y 1\nPFX U 0 un .\n"
	wholeWords   = "6\nfly/S\ncat/SC\nplay/SEU\nknot/C\nflys/F\nsing/NE\n"
)

func whole(t *testing.T) *tables.Tables {
	t.Helper()
	return read(t, wholeAffixes, wholeWords)
}

// rich: tables with each kind of derivation, whose classes stand in no order of their flags.
func rich(t *testing.T) *tables.Tables {
	t.Helper()
	return read(t,
		rows("FLAG num", "NEEDAFFIX 5", "FORBIDDENWORD 6", "KEEPCASE 4000", "COMPOUNDFLAG 3", "NOSUGGEST 2",
			"PFX 9 N 2", "PFX 9 0 un", "PFX 9 f 0 f[^l]", "SFX 300 Y 3", "SFX 300 0 s/7", "SFX 300 0 er/300,5", "SFX 300 y ies/7,5 [^a]y",
			"PFX 8 Y 2", "PFX 8 0 re", "PFX 8 fl pl fl.er", "SFX 7 Y 2", "SFX 7 0 ly", "SFX 7 s zes/300 .s", "SFX 10 N 1", "SFX 10 0 ness/7"),
		list("fly/300,9,8", "fly", "day/5,300,8", "fa/9,5", "gas/7,10,8,6", "no/5", "fit/6,2,10", "x/7,4000,3,2", "y/300,6,4000", "fly/8,7"))
}

// told: a derivation by its surface and its numbers.
func told(surface string, entry, first, second, prefix int) api.Derived {
	return api.Derived{Surface: surface, Entry: entry, First: first, Second: second, Prefix: prefix}
}

// gather: all that is gone over.
func gather(ds iter.Seq[api.Derived]) []api.Derived {
	var all []api.Derived
	for d := range ds {
		all = append(all, d)
	}
	return all
}

// texts: their surfaces, with blanks between.
func texts(ds []api.Derived) string {
	var all []string
	for _, d := range ds {
		all = append(all, d.Surface)
	}
	return strings.Join(all, " ")
}

// expectEach: these are the entry's derivations, in this order, as all calls have them.
func expectEach(t *testing.T, u *tables.Tables, entry int, want ...api.Derived) {
	t.Helper()
	if got := gather(derive.Each(u, entry)); !slices.Equal(got, want) {
		t.Errorf("Each(%d) gives\n%v; want\n%v", entry, got, want)
	}
	expectList(t, u, entry, len(want), want...)
	expectList(t, u, entry, len(want)+1, want...)
	for _, d := range want {
		expectMade(t, u, d)
	}
}

// expectTexts: the surfaces of the entry's derivations are these, with blanks between.
func expectTexts(t *testing.T, u *tables.Tables, entry int, want string) {
	t.Helper()
	if got := texts(gather(derive.Each(u, entry))); got != want {
		t.Errorf("Each(%d) gives %q; want %q", entry, got, want)
	}
}

func expectList(t *testing.T, u *tables.Tables, entry, most int, want ...api.Derived) {
	t.Helper()
	if got := derive.List(u, entry, most); !slices.Equal(got, want) {
		t.Errorf("List(%d, %d) = %v; want %v", entry, most, got, want)
	}
}

// expectMade: Make makes the derivation's surface, whatever stands in Surface.
func expectMade(t *testing.T, u *tables.Tables, d api.Derived) {
	t.Helper()
	want := d.Surface
	for _, d.Surface = range []string{want, "", "another", want + "s"} {
		if got, ok := derive.Make(u, d); got != want || !ok {
			t.Errorf("Make(%v) = %q, %v; want %q", d, got, ok, want)
		}
	}
}

// expectNone: there is no such derivation.
func expectNone(t *testing.T, u *tables.Tables, entry, first, second, prefix int) {
	t.Helper()
	for _, surface := range []string{"", "do", "flies"} {
		d := told(surface, entry, first, second, prefix)
		if got, ok := derive.Make(u, d); got != "" || ok {
			t.Errorf("Make(%v) = %q, %v; want none", d, got, ok)
		}
	}
}

func expectMeasure(t *testing.T, u *tables.Tables, most, words, bytes int, ok bool) {
	t.Helper()
	if w, b, o := derive.Measure(u, most); w != words || b != bytes || o != ok {
		t.Errorf("Measure(%d) = %d, %d, %v; want %d, %d, %v", most, w, b, o, words, bytes, ok)
	}
}

// fed: what Feed hands on of these marks, one text a call.
func fed(t *testing.T, u *tables.Tables, with, without []int) []string {
	t.Helper()
	var all []string
	err := derive.Feed(u, func(words ...string) error {
		if len(words) != 1 {
			t.Errorf("Feed hands on %q in one call", words)
		}
		all = append(all, words...)
		return nil
	}, with, without)
	if err != nil {
		t.Errorf("Feed(%v, %v) = %v", with, without, err)
	}
	return all
}

func expectFed(t *testing.T, u *tables.Tables, with, without []int, want string) {
	t.Helper()
	if got := strings.Join(fed(t, u, with, without), " "); got != want {
		t.Errorf("Feed(%v, %v) hands on %q; want %q", with, without, got, want)
	}
}

// places: the numbers of a list of so many, and numbers below and above them.
func places(count int) []int {
	const greatest, least = int(^uint(0) >> 1), -int(^uint(0)>>1) - 1
	all := []int{least, least + 1, -4294967296, -4294967295, -65536, -256, -2, -1}
	for n := range count + 3 {
		all = append(all, n)
	}
	return append(all, count+65536, 1<<16, 1<<31-1, 1<<31, 1<<32, 1<<32+1, greatest-1, greatest)
}

// shown: all that the calls answer of these tables, as a text.
func shown(u *tables.Tables) string {
	var text strings.Builder
	for entry := -1; entry <= u.Len(); entry++ {
		fmt.Fprintln(&text, gather(derive.Each(u, entry)), derive.List(u, entry, 3))
	}
	words, bytes, ok := derive.Measure(u, 10000)
	fmt.Fprintln(&text, words, bytes, ok)
	for d := range derive.All(u) {
		made, ok := derive.Make(u, d)
		fmt.Fprintln(&text, d, made, ok)
	}
	for which := range api.Specials {
		take := func(words ...string) error { fmt.Fprint(&text, words); return nil }
		fmt.Fprintln(&text, derive.Feed(u, take, []int{which}, nil), derive.Feed(u, take, nil, []int{which}))
	}
	return text.String()
}
