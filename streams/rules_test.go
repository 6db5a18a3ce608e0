package streams_test

import (
	"fmt"
	"math"
	"runtime"
	"slices"
	"strings"
	"sync"
	"testing"

	"hornbook/api"
	"hornbook/runs"
	"hornbook/streams"
)

// What the document says of all layers, held at this one.

func TestNoCallPanics(t *testing.T) { // P1, rules 5 and 6
	ints := []int{math.MinInt, -1, 0, 1, 2, 1 << 32, math.MaxInt}
	texts := []string{"", "a", "\x00", "\xff", "\xc3", strings.Repeat("ab", 99999)}
	store := runs.New(1000)
	list := []streams.Stream{{}, streams.Of(), streams.Of(texts...), recordsOf(t, store, written(t, store, "", "a", "a"))}
	for _, s := range slices.Clone(list) {
		for _, u := range slices.Clone(list) {
			list = append(list, s.Minus(u), s.Common(u), streams.Union(s, u))
		}
	}
	for _, s := range list {
		for _, n := range ints {
			s.List(n)
			streams.Records(nil, n)
			streams.Records(store, n)
			streams.Records(new(runs.Store), n)
		}
		for _, w := range texts {
			s.Has(w)
			s.From(w).Count()
		}
		s.Count()
		for range s.All() {
		}
	}
}

func TestManyPartsNestedInOneAnother(t *testing.T) { // P1: 2^16 parts
	const deep = 1 << 16
	nested := map[string]func(s streams.Stream) streams.Stream{
		"From":             func(s streams.Stream) streams.Stream { return s.From("a") },
		"Minus, on left":   func(s streams.Stream) streams.Stream { return s.Minus(streams.Of("x")) },
		"Minus, on right":  func(s streams.Stream) streams.Stream { return streams.Of("a", "b", "c").Minus(s) },
		"Common, on left":  func(s streams.Stream) streams.Stream { return s.Common(streams.Of("a", "c")) },
		"Common, on right": func(s streams.Stream) streams.Stream { return streams.Of("a", "c").Common(s) },
		"Union":            func(s streams.Stream) streams.Stream { return streams.Union(s, streams.Of("c")) },
	}
	for name, next := range nested {
		s := streams.Of("a", "c")
		for range deep {
			s = next(s)
		}
		if got := s.List(9); !slices.Equal(got, []string{"a", "c"}) {
			t.Errorf("%s: %q", name, got)
		}
	}
	u := streams.Of("a", "c")
	for range 12 {
		u = streams.Union(u, u)
	}
	if got := u.List(9); !slices.Equal(got, []string{"a", "c"}) {
		t.Errorf("a union of itself, again and again: %q", got)
	}
}

func TestListsThatAreHandedInStay(t *testing.T) { // P8.1, rule 4
	// Behind the list's length lies what no call may read or write.
	words := []string{"c", "a", "c", "b", "behind", "behind"}
	as := slices.Clone(words)
	expectGives(t, streams.Of(words[:4]...), "a", "b", "c")
	expectGives(t, streams.Of(words[:0]...))
	if !slices.Equal(words, as) {
		t.Errorf("the list became %q", words)
	}
	parts := []streams.Stream{streams.Of("c"), streams.Of("a"), streams.Of("behind")}
	expectGives(t, streams.Union(parts[:2]...), "a", "c")
	expectGives(t, streams.Union(parts[:0]...))
	for i, want := range []string{"c", "a", "behind"} {
		expectGives(t, parts[i], want)
	}
}

func TestListsThatAreHandedInAreNotKept(t *testing.T) { // P8.1, rule 4
	words := []string{"a", "b", "c"}
	s := streams.Of(words...)
	words[0], words[1], words[2] = "x", "y", "z"
	expectGives(t, s, "a", "b", "c")
	parts := []streams.Stream{streams.Of("a"), streams.Of("b")}
	u := streams.Union(parts...)
	parts[0], parts[1] = streams.Of("x"), streams.Stream{}
	expectGives(t, u, "a", "b")
	// Also if they are changed while a walk is under way.
	words = []string{"b", "a"}
	parts = []streams.Stream{streams.Of(words...), streams.Of("c")}
	var got []string
	for w := range streams.Union(parts...).All() {
		clear(words)
		clear(parts)
		got = append(got, w)
	}
	if !slices.Equal(got, []string{"a", "b", "c"}) {
		t.Errorf("%q", got)
	}
}

func TestListsThatAreAnsweredAreNew(t *testing.T) { // P8.2, rule 4
	store := runs.New(100)
	made := kinds()
	made["Records"] = recordsOf(t, store, written(t, store, "a", "b", "c"))
	for name, s := range made {
		first, second := s.List(2), s.List(math.MaxInt)
		clear(first)
		_ = append(first[:1], "x", "y", "z")
		if !slices.Equal(second, []string{"a", "b", "c"}) {
			t.Errorf("%s: the other list became %q", name, second)
		}
		clear(second)
		_ = append(second[:0], "x", "y", "z")
		expectGives(t, s, "a", "b", "c")
		third := s.List(2)
		for _, behind := range third[len(third):cap(third)] {
			if behind != "" {
				t.Errorf("%s: %q lies behind the list", name, behind)
			}
		}
		_ = append(third, "x", "y", "z")
		expectGives(t, s, "a", "b", "c")
	}
}

func TestStreamsSideBySide(t *testing.T) { // P2
	words := []string{"a", "b"}
	s, u := streams.Of(words...), streams.Of(words...)
	for a := range s.All() {
		for b := range u.All() {
			if b == a {
				break
			}
		}
	}
	expectGives(t, s, "a", "b")
	expectGives(t, u, "a", "b")
	// Two stores have runs of one number.
	first, second := runs.New(100), runs.New(100)
	p, q := recordsOf(t, first, written(t, first, "a")), recordsOf(t, second, written(t, second, "b"))
	expectGives(t, p, "a")
	expectGives(t, q, "b")
	expectError(t, first.Remove(1), nil)
	expectGives(t, q, "b")
	expectNotStreamed(t, first, 1, api.FailNoRun)
}

func TestStreamsAtTheSameTime(t *testing.T) { // P2, rule 8
	store := runs.New(1000)
	made := kinds()
	made["Records"] = recordsOf(t, store, written(t, store, "a", "b", "c"))
	for name, s := range made {
		var wait sync.WaitGroup
		got := make([]string, 16)
		for i := range got {
			wait.Go(func() {
				for range 50 {
					got[i] = fmt.Sprint(s.List(9), s.Count(), s.Has("b"), s.Minus(s).Count())
				}
			})
		}
		wait.Wait()
		for i, one := range got {
			if one != "[a b c] 3 true 0" {
				t.Errorf("%s, walker %d: %s", name, i, one)
			}
		}
	}
}

func TestStreamsOfRecordsAreNotLaidOut(t *testing.T) { // the chapter's first words: one text at a time
	var text strings.Builder
	for n := range 1 << 20 {
		fmt.Fprintf(&text, "\x07%07d", n)
	}
	store := runs.New(api.MaxStore)
	r := recordsOf(t, store, sealed(t, store, text.String()))
	asks := map[string]func(){
		"making": func() { streams.Union(r, r).Minus(r).Common(r).From("a") },
		"List":   func() { r.List(2) },
		"Has":    func() { r.Has("0000001") },
		"From":   func() { r.From("0000001").List(2) },
		"Minus":  func() { r.Minus(streams.Of("0000001")).List(2) },
		"Common": func() { r.Common(streams.Of("0000001")).List(1) },
	}
	for name, ask := range asks {
		var before, behind runtime.MemStats
		runtime.ReadMemStats(&before)
		ask()
		runtime.ReadMemStats(&behind)
		// The whole run has 8 MiB.
		if taken := behind.TotalAlloc - before.TotalAlloc; taken > 1<<17 {
			t.Errorf("%s takes %d bytes", name, taken)
		}
	}
}
