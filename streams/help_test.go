package streams_test

import (
	"math"
	"slices"
	"strings"
	"testing"

	"hornbook/record"
	"hornbook/runs"
	"hornbook/streams"
)

// expectGives: whatever the stream is asked, it answers as one of these texts does, again and again.
func expectGives(t *testing.T, s streams.Stream, want ...string) {
	t.Helper()
	all := s.All()
	for range 2 {
		if got := slices.Collect(all); !slices.Equal(got, want) {
			t.Errorf("All() gives %.300q; want %.300q", got, want)
		}
		expectLists(t, s, want)
		if got := s.Count(); got != len(want) {
			t.Errorf("Count() = %d; want %d", got, len(want))
		}
		for _, w := range probes(want) {
			if got := s.Has(w); got != slices.Contains(want, w) {
				t.Errorf("Has(%.60q) = %v of %.300q", w, got, want)
			}
		}
		expectLeft(t, s, want)
	}
}

func expectLists(t *testing.T, s streams.Stream, want []string) {
	t.Helper()
	mosts := []int{math.MinInt, -1, 0, 1, 2, len(want) / 2, len(want) - 1, len(want), len(want) + 1, math.MaxInt}
	for _, most := range mosts {
		n := min(max(most, 0), len(want))
		if got := s.List(most); !slices.Equal(got, want[:n]) {
			t.Errorf("List(%d) = %.300q; want %.300q", most, got, want[:n])
		}
	}
}

// probes: these texts, and texts ahead of them, between them and behind them.
func probes(texts []string) []string {
	list := []string{"", "\x00", "a", "m", "\x80", "\xff\xff\xff"}
	for _, w := range texts[:min(len(texts), 9)] {
		list = append(list, w, w+"\x00", w+"\xff", w[:len(w)/2])
	}
	if len(texts) > 0 {
		list = append(list, texts[len(texts)-1], texts[len(texts)-1]+"\x00")
	}
	return list
}

// expectLeft: a walk that is left at a text gives what is up to that text, and nothing behind it.
func expectLeft(t *testing.T, s streams.Stream, want []string) {
	t.Helper()
	for n := 1; n <= len(want); n += 1 + n/10 {
		var got []string
		s.All()(func(w string) bool {
			got = append(got, w)
			return len(got) != n
		})
		if !slices.Equal(got, want[:n]) {
			t.Errorf("a walk that is left at text %d gives %.300q; want %.300q", n, got, want[:n])
		}
	}
}

// expectError: the failures are these very values, not wrapped.
func expectError(t *testing.T, err, want error) {
	t.Helper()
	if err != want {
		t.Errorf("%v; want %v", err, want)
	}
}

// expectNotStreamed: Records refuses so, and its stream gives none.
func expectNotStreamed(t *testing.T, s *runs.Store, run int, want error) {
	t.Helper()
	r, err := streams.Records(s, run)
	expectError(t, err, want)
	expectGives(t, r)
	expectGives(t, streams.Union(r, streams.Of("a")), "a")
	expectGives(t, streams.Of("a").Minus(r), "a")
}

// sealed: a new run of the store with that text.
func sealed(t *testing.T, s *runs.Store, text string) int {
	t.Helper()
	n, err := s.Create()
	if err != nil || s.Append(n, text) != nil || s.Seal(n) != nil {
		t.Fatalf("no run of %d bytes: %v", len(text), err)
	}
	return n
}

// written: a new run of the store with these records.
func written(t *testing.T, s *runs.Store, recs ...string) int {
	t.Helper()
	w, err := record.Open(s, 100)
	if err != nil || w.Put(recs...) != nil {
		t.Fatalf("no run of %d records: %v", len(recs), err)
	}
	run, err := w.Close()
	if err != nil {
		t.Fatal(err)
	}
	return run
}

func recordsOf(t *testing.T, s *runs.Store, run int) streams.Stream {
	t.Helper()
	r, err := streams.Records(s, run)
	if err != nil {
		t.Fatalf("Records of run %d: %v", run, err)
	}
	return r
}

// long: a text of that many bytes.
func long(n int) string { return strings.Repeat("x", n) }

// edgy: rising texts: the empty one, some that are the beginning of others, and bytes above 127.
func edgy() []string {
	return []string{"", "\x00", "\x00\x00", "A", "Z", "a", "a\x00", "a\x00b", "aa", "aaa", "ab", "b",
		"\x7f", "\x7f\xff", "\x80", "\xc3\xa4", "\xe4", "\xff", "\xff\x00", "\xff\xff"}
}

// randoms: numbers that look like chance and are the same each time.
func randoms(seed int) func(below int) int {
	state := uint64(seed) + 1
	return func(below int) int {
		state = state*6364136223846793005 + 1442695040888963407
		return int(state >> 33 % uint64(below))
	}
}
