package dic_test

import (
	"slices"
	"strings"
	"testing"

	"hornbook/aff"
	"hornbook/api"
	"hornbook/dic"
)

// long: a text of so many letters.
func long(n int) string { return strings.Repeat("x", n) }

// rows: a text with these lines.
func rows(list ...string) string { return strings.Join(list, "\n") + "\n" }

// file: the affix file with these lines, which must be taken.
func file(t *testing.T, list ...string) *aff.File {
	t.Helper()
	f, fault := aff.Read(rows(list...))
	if fault != (api.Fault{}) {
		t.Fatalf("aff.Read(%.90q): %v", rows(list...), fault)
	}
	return f
}

// withA: the affix file of the chapter's examples.
func withA(t *testing.T) *aff.File {
	t.Helper()
	return file(t, "SFX A Y 0")
}

// read: the dictionary of a text that must be taken.
func read(t *testing.T, f *aff.File, text string) *dic.Words {
	t.Helper()
	w, fault := dic.Read(f, text)
	if w == nil || fault != (api.Fault{}) {
		t.Fatalf("Read(%.90q) = %v, %v; it must be taken", text, w, fault)
	}
	return w
}

// expectEntries: the text is taken, and has just these entries.
func expectEntries(t *testing.T, f *aff.File, text string, want ...api.Entry) {
	t.Helper()
	w := read(t, f, text)
	if got := w.Entries(); !same(got, want) || w.Len() != len(want) {
		t.Errorf("Read(%.90q): %d entries, %.300v; want %.300v", text, w.Len(), got, want)
	}
}

// expectFault: the text is refused at that line.
func expectFault(t *testing.T, f *aff.File, line int, code api.Errno, text string) {
	t.Helper()
	w, fault := dic.Read(f, text)
	if want := (api.Fault{File: api.DicFile, Line: line, Code: code}); w != nil || fault != want {
		t.Errorf("Read(%.90q) = %v, %v; want %v", text, w, fault, want)
	}
}

// expectWrong: the only entry's field is refused so.
func expectWrong(t *testing.T, f *aff.File, code api.Errno, field string) {
	t.Helper()
	expectFault(t, f, 2, code, "1\n"+field)
}

// expectFlags: the only entry's flags are these, behind the slash of its field.
func expectFlags(t *testing.T, f *aff.File, behind string, want ...api.Flag) {
	t.Helper()
	expectEntries(t, f, "1\nfly/"+behind+"\n", entry("fly", want...))
}

func expectFound(t *testing.T, w *dic.Words, word string, want ...int) {
	t.Helper()
	if got := w.Find(word); !slices.Equal(got, want) {
		t.Errorf("Find(%.90q) = %v; want %v", word, got, want)
	}
}

func entry(word string, flags ...api.Flag) api.Entry { return api.Entry{Word: word, Flags: flags} }

// same: are they the same entries? An empty list is an empty list.
func same(a, b []api.Entry) bool {
	return slices.EqualFunc(a, b, func(x, y api.Entry) bool {
		return x.Word == y.Word && slices.Equal(x.Flags, y.Flags)
	})
}
