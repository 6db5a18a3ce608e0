package record_test

import (
	"math"
	"slices"
	"strings"
	"sync"
	"testing"

	"hornbook/api"
	"hornbook/record"
	"hornbook/runs"
)

// What the document says of all layers, held at this one.

func TestOfANilWriter(t *testing.T) { // P1, P6.6 to P6.8
	var w *record.Writer
	expectRefuses(t, w, api.FailNil)
	w.Drop()
	expectRefuses(t, w, api.FailNil)
}

func TestTheZeroWriterIsClosed(t *testing.T) { // P1
	for _, w := range []*record.Writer{{}, new(record.Writer)} {
		expectRefuses(t, w, api.FailClosed)
		w.Drop()
		expectRefuses(t, w, api.FailClosed)
	}
}

func TestTheZeroReaderHasNoRecords(t *testing.T) { // P1
	for _, r := range []*record.Reader{{}, new(record.Reader)} {
		expectEnd(t, r, nil)
	}
}

func TestOfTheZeroStore(t *testing.T) { // P1
	s := new(runs.Store)
	w := open(t, s, 1)
	expectError(t, w.Put("a"), api.FailFull)
	w.Drop()
	w = open(t, s, 1)
	expectClosed(t, w, 2)
	expectEnd(t, from(t, s, 2, 1), nil)
	expectNotRead(t, new(runs.Store), 1, 1, api.FailNoRun)
}

func TestNoCallPanics(t *testing.T) { // P1, rules 5 and 6
	ints := []int{math.MinInt, -1, 0, 1, 2, 3, 9, 10, 11, 256, 4096, 4097, 1 << 32, math.MaxInt}
	texts := append(allTexts("\x00\x02\x7f\x80\xff", 3), everyByte(), strings.Repeat("\xff", 9999), strings.Repeat("ab", 99999))
	for _, text := range texts {
		for _, at := range ints {
			record.ReadUint(text, at)
		}
		record.Frame(text, text)
		record.Unframe(text)
	}
	record.Frame(texts...)
	for _, capacity := range ints {
		s := runs.New(capacity)
		for _, n := range ints {
			w, _ := record.Open(s, n)
			w.Put(texts...)
			for _, text := range texts {
				w.Put(text)
			}
			w.Close()
			for _, block := range ints {
				r, _ := record.From(s, n, block)
				for range 5 {
					r.Next()
				}
			}
			w.Drop()
		}
	}
}

func TestListsThatAreHandedInStay(t *testing.T) { // rule 4
	// Behind the list's length lies what no call may read or write.
	list := []string{"ab", "", "c", "behind", "behind"}
	as := slices.Clone(list)
	expectFrames(t, "\x02ab\x00\x01c", list[:3]...)
	s := runs.New(20)
	w := open(t, s, 20)
	put(t, w, list[:3]...)
	if !slices.Equal(list, as) {
		t.Errorf("the list became %q", list)
	}
	clear(list)
	put(t, w, "d")
	expectClosed(t, w, 1)
	expectRun(t, s, 1, "\x02ab\x00\x01c\x01d")
}

func TestListsThatAreAnsweredAreNew(t *testing.T) { // rule 4
	s := "\x01a\x01b\x01c"
	first, _ := record.Unframe(s)
	second, _ := record.Unframe(s)
	clear(first)
	_ = append(first[:1], "x", "y")
	if !slices.Equal(second, []string{"a", "b", "c"}) {
		t.Errorf("the other list became %q", second)
	}
	expectUnframed(t, s, "a", "b", "c")
}

func TestWritersOfTwoStores(t *testing.T) { // P2
	s, other := runs.New(3), runs.New(30)
	a, b := open(t, s, 2), open(t, other, 2)
	expectError(t, a.Put("abcd"), api.FailFull)
	put(t, b, "abcd")
	expectClosed(t, b, 1)
	a.Drop()
	expectLive(t, s)
	expectRun(t, other, 1, "\x04abcd")
	r := from(t, other, 1, 2)
	expectNotRead(t, s, 1, 2, api.FailNoRun)
	expectNext(t, r, "abcd")
}

func TestNothingIsKeptBetweenCalls(t *testing.T) { // rule 8
	for range 3 {
		expectNumber(t, "\xac\x02", 0, 300, 2)
		expectNoNumber(t, "\x80\x00", 0, api.ErrForm)
		expectFrames(t, "\x01a", "a")
		expectNotUnframed(t, "\x01a\x05", api.ErrShort)
		expectUnframed(t, "\x01a", "a")
		s := runs.New(4)
		w := open(t, s, 4)
		put(t, w, "a")
		expectClosed(t, w, 1)
		expectRun(t, s, 1, "\x01a")
		dead := open(t, s, 1)
		expectError(t, dead.Put("abc"), api.FailFull)
	}
}

func TestStoresAtTheSameTime(t *testing.T) { // P2
	var wait sync.WaitGroup
	got := make([]string, 16)
	for i := range got {
		wait.Go(func() {
			s := runs.New(10000)
			w, _ := record.Open(s, i+1)
			for n := range 50 {
				w.Put(strings.Repeat(string(rune('a'+i)), n))
			}
			run, _ := w.Close()
			r, _ := record.From(s, run, 2*i+1)
			for range 50 {
				rec, _, _ := r.Next()
				got[i] += rec
			}
		})
	}
	wait.Wait()
	for i, text := range got {
		if text != strings.Repeat(string(rune('a'+i)), 1225) {
			t.Errorf("store %d: %.60q", i, text)
		}
	}
}
