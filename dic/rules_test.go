package dic_test

import (
	"fmt"
	"slices"
	"strings"
	"sync"
	"testing"
	"unsafe"

	"hornbook/aff"
	"hornbook/api"
	"hornbook/dic"
)

// What the document says of all layers, held at this one.

func TestNoCallPanics(t *testing.T) { // P1, rules 5 and 6
	every := make([]byte, 256)
	for i := range every {
		every[i] = byte(i)
	}
	texts := []string{"", "\n", "#", "\x00", "0", "1", "8192", "8193", string(every), "1\n" + string(every), "1\n" + string(every[33:]), strings.Repeat(string(every), 256), strings.Repeat(string(every), 300),
		"8192\n" + strings.Repeat("a\n", 8192), "8192\n" + strings.Repeat("a\n", 9000), "1\n" + long(65534), "1\na/" + long(65000), "1\n" + strings.Repeat(`\`, 65000), "1\n" + strings.Repeat("/", 65000)}
	for b := range 256 {
		s := string([]byte{byte(b)})
		texts = append(texts, s, "1\n"+s, "1\na"+s, "1\na/"+s, "1\na\\"+s, "1"+s+"a", s+"1\na")
	}
	files := []*aff.File{nil, {}, file(t), withA(t), file(t, "FLAG long"), file(t, "FLAG num", "AF 1", "AF 7"), file(t, "AF 0")}
	books := []*dic.Words{nil, {}}
	for _, f := range files {
		for _, text := range texts {
			w, fault := dic.Read(f, text)
			if (w == nil) == (fault == api.Fault{}) || w == nil && fault.File != api.DicFile {
				t.Errorf("Read(%.40q) = %v, %v", text, w, fault)
			}
			books = append(books, w)
		}
	}
	for _, w := range books {
		if len(w.Entries()) != w.Len() {
			t.Errorf("%d entries, Len() = %d", len(w.Entries()), w.Len())
		}
		for _, word := range []string{"", "a", "\x00", string(every), long(99999)} {
			w.Find(word)
		}
	}
}

func TestAFileThatNoneHasRead(t *testing.T) { // P1, P12.1
	// It has no kind of flags, and no flag is defined in it.
	f := &aff.File{}
	expectEntries(t, f, "1\na\n", entry("a"))
	expectWrong(t, f, api.ErrKind, "a/A")
}

// rich: a file and a dictionary that have something of all.
func rich(t *testing.T) (*aff.File, string) {
	t.Helper()
	f := file(t, "FLAG num", "KEEPCASE 3", "AF 4", "AF 7,300,9", "AF 300", "AF 9,7", "AF 3", "PFX 9 N 1", "PFX 9 0 un", "SFX 7 Y 1", "SFX 7 0 s/2", "SFX 300 N 0")
	return f, rows("7", "fly/1", "in\\/out", "fly/2", "fly", "cat/1", "cat/1", "dog/4")
}

// overwrite writes over all that a list can be made to reach.
func overwrite[T any](list []T, with T) {
	all := list[:cap(list)]
	for i := range all {
		all[i] = with
	}
}

func scribble(entries []api.Entry) {
	for _, e := range entries {
		overwrite(e.Flags, 60000)
	}
	overwrite(entries, entry("?", 60000))
}

func TestWhatIsAnsweredIsNewMemory(t *testing.T) { // P12.2, P12.3, rule 4
	f, text := rich(t)
	w, want := read(t, f, text), read(t, f, text).Entries()
	for round := range 3 {
		first, second := w.Entries(), w.Entries()
		scribble(first)
		if !same(second, want) {
			t.Fatalf("round %d: two answers share memory: %v", round, second)
		}
		if again := w.Entries(); !same(again, want) {
			t.Fatalf("round %d: an answer shares memory with the dictionary: %v", round, again)
		}
		for word, numbers := range map[string][]int{"fly": {0, 2, 3}, "cat": {4, 5}, "dog": {6}, "in/out": {1}, "?": nil} {
			first, second := w.Find(word), w.Find(word)
			overwrite(first, 4711)
			if !slices.Equal(second, numbers) {
				t.Fatalf("round %d: two answers of Find(%q) share memory: %v", round, word, second)
			}
			expectFound(t, w, word, numbers...)
		}
	}
}

func TestTheListsOfAnAnswerShareNoMemory(t *testing.T) { // P12.2, rule 4
	f, text := rich(t)
	want := read(t, f, text).Entries()
	for i := range want {
		got := read(t, f, text).Entries()
		// What lies behind a set's length must not be its neighbour's either.
		overwrite(got[i].Flags, 60000)
		_ = append(got[i].Flags, 60000, 60000)
		for j := range got {
			if j != i && !slices.Equal(got[j].Flags, want[j].Flags) {
				t.Errorf("the flags of the entries %d and %d share memory", i, j)
			}
		}
	}
}

func TestTheFileStaysAsItIs(t *testing.T) { // rule 4
	f, text := rich(t)
	before := fmt.Sprintf("%#v", f.Affixes())
	w := read(t, f, text)
	scribble(w.Entries())
	dic.Read(f, "1\nfly/9\n")
	if after := fmt.Sprintf("%#v", f.Affixes()); after != before {
		t.Errorf("%s became %s", before, after)
	}
	if set, e := f.Flags("1"); e != api.OK || !slices.Equal(set, []api.Flag{7, 9, 300}) {
		t.Errorf("Flags(1) = %v, %d", set, e)
	}
}

func TestOfTheTextNothingIsKept(t *testing.T) { // rule 4
	f, text := rich(t)
	begin := uintptr(unsafe.Pointer(unsafe.StringData(text)))
	for _, e := range read(t, f, text).Entries() {
		if at := uintptr(unsafe.Pointer(unsafe.StringData(e.Word))); at >= begin && at < begin+uintptr(len(text)) {
			t.Errorf("%q is a piece of the text", e.Word)
		}
	}
}

func TestADictionaryKeepsNoFile(t *testing.T) { // rules 4 and 8
	f, text := rich(t)
	w, want := read(t, f, text), read(t, f, text).Entries()
	// Even a file that its owner makes another one changes no dictionary that was read.
	*f = aff.File{}
	if got := w.Entries(); !same(got, want) {
		t.Errorf("%v became %v", want, got)
	}
	expectFound(t, w, "fly", 0, 2, 3)
}

func TestDictionariesThatWereReadApart(t *testing.T) { // P2, rule 8
	f, text := rich(t)
	first, want := read(t, f, text), read(t, f, text).Entries()
	others := []*dic.Words{read(t, f, text), read(t, f, "2\nfly/4\nfly\n"), read(t, withA(t), "1\nfly/A\n"), read(t, f, "0")}
	for _, refused := range []string{"", "2\nfly/1\nfly/9\n", "3\nfly/1\nfly\n", strings.Repeat("x", 70000)} {
		dic.Read(f, refused)
	}
	for _, w := range others {
		scribble(w.Entries())
		overwrite(w.Find("fly"), 4711)
	}
	if got := first.Entries(); !same(got, want) || first.Len() != 7 {
		t.Errorf("%v became %v", want, got)
	}
	if got := others[0].Entries(); !same(got, want) {
		t.Errorf("the same text has %v and %v", want, got)
	}
	expectFound(t, first, "fly", 0, 2, 3)
	expectFound(t, others[1], "fly", 0, 1)
	expectFound(t, others[2], "fly", 0)
	expectFound(t, others[3], "fly")
	// What a refused text had is forgotten.
	expectEntries(t, f, "1\ncat\n", entry("cat"))
}

func TestQuestionsChangeNothing(t *testing.T) { // rules 3 and 8
	f, text := rich(t)
	w, want := read(t, f, text), read(t, f, text).Entries()
	for range 3 {
		for _, word := range []string{"", "nothing", "fly", "9", "\x00"} {
			w.Find(word)
		}
		if got := w.Entries(); !same(got, want) || w.Len() != len(want) {
			t.Fatalf("%v became %v", want, got)
		}
	}
	expectFound(t, w, "nothing")
}

func TestCallsAtTheSameTime(t *testing.T) { // P2
	f, text := rich(t)
	shared := read(t, f, text)
	var wait sync.WaitGroup
	got := make([]string, 16)
	for i := range got {
		wait.Go(func() {
			w, fault := dic.Read(f, fmt.Sprintf("1\nx%d/%d\n", i%2, 4+i%2))
			got[i] = fmt.Sprint(w.Len(), fault, shared.Len(), shared.Find("cat"), len(shared.Find("x0")), len(shared.Entries()))
		})
	}
	wait.Wait()
	for i, s := range got {
		fault := []api.Fault{{}, {File: api.DicFile, Line: 2, Code: api.ErrNumber}}[i%2]
		if want := fmt.Sprint(1-i%2, fault, 7, []int{4, 5}, 0, 7); s != want {
			t.Errorf("call %d: %q; want %q", i, s, want)
		}
	}
}
