package runs_test

import (
	"slices"
	"testing"

	"hornbook/api"
	"hornbook/runs"
)

// counts is what a store tells of itself as a whole.
type counts struct {
	used, peak, made int
	live             []int
}

func expectTold(t *testing.T, s *runs.Store, want counts) {
	t.Helper()
	got := counts{s.Used(), s.Peak(), s.Made(), s.Live()}
	if got.used != want.used || got.peak != want.peak || got.made != want.made || !slices.Equal(got.live, want.live) {
		t.Errorf("the store tells %v; want %v", got, want)
	}
}

// expectError: the failures are these very values, not wrapped.
func expectError(t *testing.T, err, want error) {
	t.Helper()
	if err != want {
		t.Errorf("%v; want %v", err, want)
	}
}

// create: the next run, which must have that number.
func create(t *testing.T, s *runs.Store, number int) {
	t.Helper()
	if n, err := s.Create(); n != number || err != nil {
		t.Fatalf("Create() = %d, %v; want %d", n, err, number)
	}
}

func expectSize(t *testing.T, s *runs.Store, run, size int) {
	t.Helper()
	if n, err := s.Size(run); n != size || err != nil {
		t.Errorf("Size(%d) = %d, %v; want %d", run, n, err, size)
	}
}

// expectRead: a sealed run holds just that text.
func expectRead(t *testing.T, s *runs.Store, run int, text string) {
	t.Helper()
	if got, err := s.Read(run, 0, len(text)); got != text || err != nil {
		t.Errorf("Read(%d) = %.40q, %v; want %.40q", run, got, err, text)
	}
	if got, err := s.Read(run, len(text), 0); got != "" || err != nil {
		t.Errorf("Read(%d) at its end = %.40q, %v", run, got, err)
	}
	expectNotRead(t, s, run, 0, len(text)+1, api.FailRange)
	expectSize(t, s, run, len(text))
}

func expectNotRead(t *testing.T, s *runs.Store, run, at, n int, want error) {
	t.Helper()
	if got, err := s.Read(run, at, n); got != "" || err != want {
		t.Errorf("Read(%d, %d, %d) = %.40q, %v; want %v", run, at, n, got, err, want)
	}
}

// expectNoRun: every call says that there is no such run, and changes nothing.
func expectNoRun(t *testing.T, s *runs.Store, run int) {
	t.Helper()
	before := counts{s.Used(), s.Peak(), s.Made(), s.Live()}
	expectError(t, s.Append(run), api.FailNoRun)
	expectError(t, s.Append(run, "a"), api.FailNoRun)
	expectError(t, s.Seal(run), api.FailNoRun)
	expectError(t, s.Remove(run), api.FailNoRun)
	expectNotRead(t, s, run, 0, 0, api.FailNoRun)
	expectNotRead(t, s, run, -1, 5, api.FailNoRun)
	if n, err := s.Size(run); n != 0 || err != api.FailNoRun {
		t.Errorf("Size(%d) = %d, %v", run, n, err)
	}
	expectTold(t, s, before)
}

// everyByte: all bytes, rising.
func everyByte() string {
	bytes := make([]byte, 256)
	for i := range bytes {
		bytes[i] = byte(i)
	}
	return string(bytes)
}
