package tables_test

import (
	"fmt"
	"slices"
	"strings"
	"testing"

	"hornbook/api"
	"hornbook/tables"
)

// long: a text of so many letters.
func long(n int) string { return strings.Repeat("x", n) }

// rows: a text with these lines.
func rows(list ...string) string { return strings.Join(list, "\n") + "\n" }

// list: the dictionary with these entries, their count ahead.
func list(entries ...string) string {
	return rows(slices.Insert(entries, 0, fmt.Sprint(len(entries)))...)
}

// read: the tables of two texts that must be taken.
func read(t *testing.T, affixes, words string) *tables.Tables {
	t.Helper()
	u, fault := tables.Read(affixes, words)
	if u == nil || fault != (api.Fault{}) {
		t.Fatalf("Read(%.300q, %.90q) = %v, %v; they must be taken", affixes, words, u, fault)
	}
	return u
}

// example: the chapter's.
func example(t *testing.T) *tables.Tables {
	t.Helper()
	return read(t, "NEEDAFFIX N\nSFX A Y 2\nSFX A 0 s\nSFX A 0 er/BN\nPFX P Y 1\nPFX P 0 re\nSFX B Y 1\nSFX B 0 s\n", "2\ndo/AP\nfit/N\n")
}

// The texts of the whole's examples.
const (
	wholeAffixes = "FORBIDDENWORD F\nNEEDAFFIX N\nCOMPOUNDFLAG C\nTRY esy\nREP 1\nREP f ph\nSFX S Y 2\nSFX S 0 s [^sy]\nSFX S y ies [^aeiou]y\nSFX E Y 1\nSFX E 0 er/S .\nPFX U Y 1\nPFX U 0 un .\n"
	wholeWords   = "6\nfly/S\ncat/SC\nplay/SEU\nknot/C\nflys/F\nsing/NE\n"
)

func whole(t *testing.T) *tables.Tables {
	t.Helper()
	return read(t, wholeAffixes, wholeWords)
}

// rich: tables that have something of all: flags that are numbers, aliases, classes whose flags fall,
// rules that go on, and each kind of flag at the entries.
func rich(t *testing.T) *tables.Tables {
	t.Helper()
	return read(t,
		rows("FLAG num", "TRY abc", "NEEDAFFIX 5", "KEEPCASE 4000", "REP 1", "REP a b", "AF 8", "AF 300,7,9", "AF 300", "AF 9,5", "AF 4000", "AF 7,5", "AF 300,7", "AF 5", "AF 9,300,7,5,4000",
			"SFX 300 Y 3", "SFX 300 0 s/6", "SFX 300 0 er/5", "SFX 300 y ies/7", "PFX 9 N 2", "PFX 9 0 un", "PFX 9 0 re d", "SFX 7 Y 2", "SFX 7 0 ly", "SFX 7 0 ness/2 [^s]"),
		list("fly/1", `in\/out`, "fly/2", "fly", "cat/3", "cat/8", "dog/4"))
}

func expectFault(t *testing.T, want api.Fault, affixes, words string) {
	t.Helper()
	if u, fault := tables.Read(affixes, words); u != nil || fault != want {
		t.Errorf("Read(%.90q, %.90q) = %v, %v; want %v", affixes, words, u, fault, want)
	}
}

func expectRule(t *testing.T, u *tables.Tables, n int, want api.Rule) {
	t.Helper()
	if got, ok := u.Rule(n); !ok || !sameRule(got, want) {
		t.Errorf("Rule(%d) = %v, %v; want %v", n, got, ok, want)
	}
}

func expectEntry(t *testing.T, u *tables.Tables, n int, word string, flags ...api.Flag) {
	t.Helper()
	if got, ok := u.Entry(n); !ok || !sameEntry(got, api.Entry{Word: word, Flags: flags}) {
		t.Errorf("Entry(%d) = %v, %v; want %q, %v", n, got, ok, word, flags)
	}
}

func expectSuffixes(t *testing.T, u *tables.Tables, entry int, want ...int) {
	t.Helper()
	expectNumbers(t, fmt.Sprintf("Suffixes(%d)", entry), u.Suffixes(entry), want)
}

func expectPrefixes(t *testing.T, u *tables.Tables, entry int, want ...int) {
	t.Helper()
	expectNumbers(t, fmt.Sprintf("Prefixes(%d)", entry), u.Prefixes(entry), want)
}

func expectSeconds(t *testing.T, u *tables.Tables, rule int, want ...int) {
	t.Helper()
	expectNumbers(t, fmt.Sprintf("Seconds(%d)", rule), u.Seconds(rule), want)
}

func expectNumbers(t *testing.T, call string, got, want []int) {
	t.Helper()
	if !slices.Equal(got, want) {
		t.Errorf("%s = %v; want %v", call, got, want)
	}
}

// expectEnds: just these rules end a word; of all others, also those that there are not, Ends is false.
func expectEnds(t *testing.T, u *tables.Tables, want ...int) {
	t.Helper()
	for _, n := range places(len(u.Affixes().Rules)) {
		if got := u.Ends(n); got != slices.Contains(want, n) {
			t.Errorf("Ends(%d) = %v; want true of %v", n, got, want)
		}
	}
}

// expectMarks: the entry has just these of the special flags; of other numbers Marked is false.
func expectMarks(t *testing.T, u *tables.Tables, entry int, want ...int) {
	t.Helper()
	for _, which := range places(api.Specials) {
		if got := u.Marked(entry, which); got != slices.Contains(want, which) {
			t.Errorf("Marked(%d, %d) = %v; want true of %v", entry, which, got, want)
		}
	}
}

// places: the numbers of a list of so many, and numbers below and above them.
func places(count int) []int {
	const greatest, least = int(^uint(0) >> 1), -int(^uint(0)>>1) - 1
	all := []int{least, least + 1, -4294967296, -4294967295, -65536, -256, -2, -1}
	for n := range count + 3 {
		all = append(all, n)
	}
	return append(all, count+65536, 1<<16, 1<<31-1, 1<<31, 1<<32, 1<<32+1, greatest-1, greatest)
}

// An empty list is an empty list.

func sameRule(a, b api.Rule) bool {
	return a.Kind == b.Kind && a.Flag == b.Flag && a.Cross == b.Cross &&
		a.Strip == b.Strip && a.Add == b.Add && a.Cond == b.Cond && slices.Equal(a.Next, b.Next)
}

func sameEntry(a, b api.Entry) bool {
	return a.Word == b.Word && slices.Equal(a.Flags, b.Flags)
}

// shown: all that the tables answer, as a text.
func shown(u *tables.Tables) string {
	var text strings.Builder
	said, entries := u.Affixes(), u.Entries()
	fmt.Fprintln(&text, said, entries, u.Len())
	for n := -1; n <= len(said.Rules); n++ {
		rule, some := u.Rule(n)
		fmt.Fprintln(&text, rule, some, u.Seconds(n), u.Ends(n))
	}
	for n := -1; n <= len(entries); n++ {
		entry, some := u.Entry(n)
		fmt.Fprintln(&text, entry, some, u.Suffixes(n), u.Prefixes(n), u.Find(entry.Word))
		for which := -1; which <= api.Specials; which++ {
			fmt.Fprint(&text, u.Marked(n, which))
		}
	}
	return text.String()
}
