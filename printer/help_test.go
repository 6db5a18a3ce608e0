package printer_test

import (
	"reflect"
	"slices"
	"strconv"
	"strings"
	"testing"

	"hornbook/api"
	"hornbook/printer"
	"hornbook/tables"
)

func decimal(n int) string { return strconv.Itoa(n) }

// long: a text of so many letters.
func long(n int) string { return strings.Repeat("x", n) }

// rows: a text with these lines.
func rows(list ...string) string { return strings.Join(list, "\n") + "\n" }

// list: the dictionary with these entries, their count ahead.
func list(entries ...string) string {
	return rows(slices.Concat([]string{decimal(len(entries))}, entries)...)
}

// read: the tables of two texts that must be taken.
func read(t *testing.T, affixes, words string) *tables.Tables {
	t.Helper()
	u, fault := tables.Read(affixes, words)
	if u == nil || fault != (api.Fault{}) {
		t.Fatalf("Read(%.300q, %.90q) = %v, %v; they must be taken", affixes, words, u, fault)
	}
	return u
}

// file: the tables of an affix file without entries.
func file(t *testing.T, lines ...string) *tables.Tables {
	t.Helper()
	return read(t, rows(lines...), "0")
}

// The texts of the whole's examples.
const (
	wholeAffixes = "FORBIDDENWORD F\nNEEDAFFIX N\nCOMPOUNDFLAG C\nTRY esy\nREP 1\nREP f ph\nSFX S Y 2\nSFX S 0 s [^sy]\nSFX S y ies [^aeiou]y\nSFX E Y 1\nSFX E 0 er/S .\nPFX U Y 1\nPFX U 0 un .\n"
	wholeWords   = "6\nfly/S\ncat/SC\nplay/SEU\nknot/C\nflys/F\nsing/NE\n"
)

// richFiles: the texts of tables that say something of all, as they are printed.
func richFiles() (affixes, words string) {
	return rows("FLAG num", "SET utf-8", "TRY noise", "NEEDAFFIX 5", "FORBIDDENWORD 6", "KEEPCASE 4000", "COMPOUNDFLAG 11", "NOSUGGEST 12", "COMPOUNDMIN 2",
			"REP 3", "REP a b", "REP 0 0", `REP \# \/\\`,
			"AF 6", "AF 7,9,300", "AF 300", "AF 5,7", "AF 5,300", "AF 7,300", "AF 5,6,11,12,4000",
			"SFX 300 Y 4", "SFX 300 0 s/5 .", "SFX 300 0 0/4 [^a]", "SFX 300 y ies/2 [#]y", `SFX 300 e \#ing .`,
			"PFX 9 N 2", "PFX 9 0 un .", "PFX 9 q 0 [#]d", "SFX 7 Y 0"),
		list("fly/1", `in\/out`, "fly/2", "fly", `\#cat\\/3`, "cat/6")
}

func rich(t *testing.T) *tables.Tables {
	t.Helper()
	affixes, words := richFiles()
	return read(t, affixes, words)
}

// expectAff: the affix file of the tables is written just so.
func expectAff(t *testing.T, u *tables.Tables, want string) {
	t.Helper()
	if got, e := printer.Aff(u); got != want || e != api.OK {
		t.Errorf("Aff is %.900q, %d; want %.900q", got, e, want)
	}
}

// expectDic: likewise their dictionary.
func expectDic(t *testing.T, u *tables.Tables, want string) {
	t.Helper()
	if got, e := printer.Dic(u); got != want || e != api.OK {
		t.Errorf("Dic is %.900q, %d; want %.900q", got, e, want)
	}
}

// refused: the answer is no text but that error.
func refused(t *testing.T, call string, got string, e, want api.Errno) {
	t.Helper()
	if got != "" || e != want {
		t.Errorf("%s is %.90q (%d bytes), %d; want error %d", call, got, len(got), e, want)
	}
}

func expectNoAff(t *testing.T, u *tables.Tables, want api.Errno) {
	t.Helper()
	got, e := printer.Aff(u)
	refused(t, "Aff", got, e, want)
}

func expectNoDic(t *testing.T, u *tables.Tables, want api.Errno) {
	t.Helper()
	got, e := printer.Dic(u)
	refused(t, "Dic", got, e, want)
}

// expectLines: of an affix file with these lines the text has just these rows.
func expectLines(t *testing.T, lines, want []string) {
	t.Helper()
	u := file(t, lines...)
	expectAff(t, u, rows(want...))
	expectAgain(t, u)
}

// expectGroup: likewise, behind the two rows that stand in every file.
func expectGroup(t *testing.T, lines, want []string) {
	t.Helper()
	expectLines(t, lines, slices.Concat([]string{"FLAG short", "COMPOUNDMIN 3"}, want))
}

// expectAgain: both texts are taken, say the same as the tables, and are written again as they are.
func expectAgain(t *testing.T, u *tables.Tables) {
	t.Helper()
	affixes, e := printer.Aff(u)
	words, f := printer.Dic(u)
	if e != api.OK || f != api.OK {
		t.Fatalf("Aff answers %d, Dic %d", e, f)
	}
	v, fault := tables.Read(affixes, words)
	if v == nil || fault != (api.Fault{}) {
		t.Fatalf("%.900q and %.900q are refused: %v", affixes, words, fault)
	}
	expectAff(t, v, affixes)
	expectDic(t, v, words)
	if !printer.Same(u, v) || !printer.Same(v, u) || !sayTheSame(u, v) {
		t.Errorf("%.900q and %.900q say something else than what they were written of", affixes, words)
	}
}

// sayTheSame: a plain second writing of what Same asks, which looks at every field that there is.
func sayTheSame(u, v *tables.Tables) bool {
	return alike(reflect.ValueOf(u.Affixes()), reflect.ValueOf(v.Affixes())) &&
		alike(reflect.ValueOf(u.Entries()), reflect.ValueOf(v.Entries()))
}

// alike: an empty list is an empty list.
func alike(a, b reflect.Value) bool {
	switch a.Kind() {
	case reflect.Slice, reflect.Array:
		same := a.Len() == b.Len()
		for i := 0; same && i < a.Len(); i++ {
			same = alike(a.Index(i), b.Index(i))
		}
		return same
	case reflect.Struct:
		for i := range a.NumField() {
			if !alike(a.Field(i), b.Field(i)) {
				return false
			}
		}
		return true
	}
	return a.Equal(b)
}
