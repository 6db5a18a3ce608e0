package batch_test

import (
	"fmt"
	"slices"
	"strings"
	"testing"

	"hornbook/api"
	"hornbook/batch"
	"hornbook/record"
	"hornbook/runs"
)

// long: a word of that many bytes.
func long(n int) string { return strings.Repeat("x", n) }

// numbered: so many words of seven bytes, rising.
func numbered(n int) []string {
	list := make([]string, n)
	for i := range list {
		list[i] = fmt.Sprintf("%07d", i)
	}
	return list
}

// falling: the same words, the greatest first.
func falling(words []string) []string {
	list := slices.Clone(words)
	slices.Reverse(list)
	return list
}

func former(t *testing.T, s *runs.Store, buffer int) *batch.Former {
	t.Helper()
	f, err := batch.New(s, buffer)
	if f == nil || err != nil {
		t.Fatalf("New with buffer %d: %v, %v", buffer, f, err)
	}
	return f
}

func expectNotMade(t *testing.T, s *runs.Store, buffer int, want error) {
	t.Helper()
	if f, err := batch.New(s, buffer); f != nil || err != want {
		t.Errorf("New with buffer %d: %v, %v; want %v", buffer, f, err, want)
	}
}

func add(t *testing.T, f *batch.Former, words ...string) {
	t.Helper()
	expectError(t, f.Add(words...), nil)
}

// expectError: the failures are these very values, not wrapped.
func expectError(t *testing.T, err, want error) {
	t.Helper()
	if err != want {
		t.Errorf("%v; want %v", err, want)
	}
}

// expectFinished: Finish answers these runs, and the former is closed.
func expectFinished(t *testing.T, f *batch.Former, numbers ...int) {
	t.Helper()
	if got, err := f.Finish(); !slices.Equal(got, numbers) || err != nil {
		t.Errorf("Finish() = %v, %v; want %v", got, err, numbers)
	}
	expectRefuses(t, f, api.FailClosed)
}

func expectNotFinished(t *testing.T, f *batch.Former, want error) {
	t.Helper()
	if got, err := f.Finish(); len(got) != 0 || err != want {
		t.Errorf("Finish() = %v, %v; want %v", got, err, want)
	}
}

// expectRefuses: whatever a closed, a dead or a nil former is asked, it answers that.
func expectRefuses(t *testing.T, f *batch.Former, want error) {
	t.Helper()
	for range 2 {
		for _, words := range [][]string{nil, {}, {""}, {"a"}, {"a", long(256)}, {long(9999)}, numbered(99)} {
			if err := f.Add(words...); err != want {
				t.Errorf("Add of %d words: %v; want %v", len(words), err, want)
			}
		}
		expectNotFinished(t, f, want)
	}
}

// expectRun: the run is sealed and holds just these words, in that order.
func expectRun(t *testing.T, s *runs.Store, run int, words ...string) {
	t.Helper()
	frames, e := record.Frame(words...)
	size, err := s.Size(run)
	got, readErr := s.Read(run, 0, size)
	if e != api.OK || err != nil || readErr != nil || got != frames {
		t.Errorf("run %d is %.90q, %v, %v; want %.90q", run, got, err, readErr, frames)
	}
}

func expectLive(t *testing.T, s *runs.Store, numbers ...int) {
	t.Helper()
	if got := s.Live(); !slices.Equal(got, numbers) {
		t.Errorf("the store has the runs %v; want %v", got, numbers)
	}
}

// expectUsed: the runs that there are have so many bytes together, and so many were ever made.
func expectUsed(t *testing.T, s *runs.Store, bytes, made int) {
	t.Helper()
	if s.Used() != bytes || s.Made() != made {
		t.Errorf("%d bytes are used, %d runs were made; want %d and %d", s.Used(), s.Made(), bytes, made)
	}
}

// expectSteps: the call takes just n steps of the store. The step behind them
// is taken here, and is the one that the store was told to refuse.
func expectSteps(t *testing.T, s *runs.Store, n int, call func()) {
	t.Helper()
	s.Break(n + 1)
	call()
	if run, err := s.Create(); run != 0 || err != api.FailBroken {
		t.Errorf("not %d steps: Create() = %d, %v", n, run, err)
	}
	s.Break(0)
}

// foreign: a sealed run of the store that no former made.
func foreign(t *testing.T, s *runs.Store, words ...string) int {
	t.Helper()
	w, err := record.Open(s, api.Block)
	if err != nil || w.Put(words...) != nil {
		t.Fatalf("no run of %d words: %v", len(words), err)
	}
	run, err := w.Close()
	if err != nil {
		t.Fatal(err)
	}
	return run
}

// randoms: numbers that look like chance and are the same each time.
func randoms(seed int) func(below int) int {
	state := uint64(seed) + 1
	return func(below int) int {
		state = state*6364136223846793005 + 1442695040888963407
		return int(state >> 33 % uint64(below))
	}
}
