package aff_test

import (
	"fmt"
	"slices"
	"strings"
	"testing"

	"hornbook/aff"
	"hornbook/api"
)

// long: a text of so many letters.
func long(n int) string { return strings.Repeat("x", n) }

// rows: a text with these lines.
func rows(list ...string) string { return strings.Join(list, "\n") + "\n" }

// read: the file of a text that must be taken.
func read(t *testing.T, list ...string) *aff.File {
	t.Helper()
	text := rows(list...)
	f, fault := aff.Read(text)
	if f == nil || fault != (api.Fault{}) {
		t.Fatalf("Read(%.90q) = %v, %v; it must be taken", text, f, fault)
	}
	return f
}

// affixes: what the file of a text says that must be taken.
func affixes(t *testing.T, list ...string) api.Affixes {
	t.Helper()
	return read(t, list...).Affixes()
}

func expectTaken(t *testing.T, list ...string) {
	t.Helper()
	expectFaultOf(t, rows(list...), api.Fault{})
}

// expectFault: the text with these lines is refused at that line.
func expectFault(t *testing.T, line int, code api.Errno, list ...string) {
	t.Helper()
	expectFaultOf(t, rows(list...), api.Fault{File: api.AffFile, Line: line, Code: code})
}

func expectFaultOf(t *testing.T, text string, want api.Fault) {
	t.Helper()
	f, fault := aff.Read(text)
	if fault != want || (f == nil) != (want != api.Fault{}) {
		t.Errorf("Read(%.90q) = %v, %v; want %v", text, f, fault, want)
	}
}

// expectSays: the text with these lines says just that.
func expectSays(t *testing.T, want api.Affixes, list ...string) {
	t.Helper()
	if got := affixes(t, list...); !same(got, want) {
		t.Errorf("%.90q says %s; want %s", rows(list...), shown(got), shown(want))
	}
}

// plain: what a file says that says nothing.
func plain() api.Affixes { return api.Affixes{Kind: api.Short, Least: 3} }

// same: do both say the same? An empty list is an empty list.
func same(a, b api.Affixes) bool {
	return a.Kind == b.Kind && a.Charset == b.Charset && a.Try == b.Try && a.Specials == b.Specials && a.Least == b.Least &&
		slices.Equal(a.Reps, b.Reps) && slices.Equal(a.Classes, b.Classes) &&
		slices.EqualFunc(a.Aliases, b.Aliases, slices.Equal[[]api.Flag]) &&
		slices.EqualFunc(a.Rules, b.Rules, sameRule)
}

func sameRule(a, b api.Rule) bool {
	return a.Kind == b.Kind && a.Flag == b.Flag && a.Cross == b.Cross &&
		a.Strip == b.Strip && a.Add == b.Add && a.Cond == b.Cond && slices.Equal(a.Next, b.Next)
}

func shown(a api.Affixes) string {
	return fmt.Sprintf("%.900s", fmt.Sprintf("%#v", a))
}

// repeated: so many lines that are alike.
func repeated(n int, line string) []string { return slices.Repeat([]string{line}, n) }

// lists: one list of them all.
func lists(parts ...[]string) []string { return slices.Concat(parts...) }

// readRows: what Read answers of a text with these lines.
func readRows(list ...string) (*aff.File, api.Fault) { return aff.Read(rows(list...)) }
