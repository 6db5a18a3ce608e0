package record_test

import (
	"slices"
	"strings"
	"testing"

	"hornbook/api"
	"hornbook/record"
	"hornbook/runs"
)

// long: a record of that many bytes.
func long(n int) string { return strings.Repeat("x", n) }

// expectError: the failures are these very values, not wrapped.
func expectError(t *testing.T, err, want error) {
	t.Helper()
	if err != want {
		t.Errorf("%v; want %v", err, want)
	}
}

func expectNumber(t *testing.T, s string, at int, n uint64, next int) {
	t.Helper()
	if got, place, e := record.ReadUint(s, at); got != n || place != next || e != api.OK {
		t.Errorf("ReadUint(%q, %d) = %d, %d, %d; want %d, %d", s, at, got, place, e, n, next)
	}
}

func expectNoNumber(t *testing.T, s string, at int, want api.Errno) {
	t.Helper()
	if got, place, e := record.ReadUint(s, at); got != 0 || place != 0 || e != want {
		t.Errorf("ReadUint(%q, %d) = %d, %d, %d; want %d", s, at, got, place, e, want)
	}
}

func expectUnframed(t *testing.T, s string, recs ...string) {
	t.Helper()
	if got, e := record.Unframe(s); !slices.Equal(got, recs) || e != api.OK {
		t.Errorf("Unframe(%.60q) = %.60q, %d; want %.60q", s, got, e, recs)
	}
}

func expectNotUnframed(t *testing.T, s string, want api.Errno) {
	t.Helper()
	if got, e := record.Unframe(s); len(got) != 0 || e != want {
		t.Errorf("Unframe(%.60q) = %.60q, %d; want %d", s, got, e, want)
	}
}

func open(t *testing.T, s *runs.Store, block int) *record.Writer {
	t.Helper()
	w, err := record.Open(s, block)
	if w == nil || err != nil {
		t.Fatalf("Open with block %d: %v", block, err)
	}
	return w
}

func from(t *testing.T, s *runs.Store, run, block int) *record.Reader {
	t.Helper()
	r, err := record.From(s, run, block)
	if r == nil || err != nil {
		t.Fatalf("From run %d with block %d: %v", run, block, err)
	}
	return r
}

func expectClosed(t *testing.T, w *record.Writer, run int) {
	t.Helper()
	if n, err := w.Close(); n != run || err != nil {
		t.Errorf("Close() = %d, %v; want %d", n, err, run)
	}
	expectRefuses(t, w, api.FailClosed)
}

// expectRefuses: whatever a closed, a dead or a nil writer is asked, it answers that.
func expectRefuses(t *testing.T, w *record.Writer, want error) {
	t.Helper()
	for range 2 {
		for _, recs := range [][]string{nil, {""}, {"a"}, {"a", long(256)}, {long(255), long(255)}} {
			if err := w.Put(recs...); err != want {
				t.Errorf("Put of %d records: %v; want %v", len(recs), err, want)
			}
		}
		if n, err := w.Close(); n != 0 || err != want {
			t.Errorf("Close() = %d, %v; want %v", n, err, want)
		}
	}
}

func expectSize(t *testing.T, s *runs.Store, run, size int) {
	t.Helper()
	if n, err := s.Size(run); n != size || err != nil {
		t.Errorf("run %d has %d bytes, %v; want %d", run, n, err, size)
	}
}

// expectRun: the run is sealed and holds just that text.
func expectRun(t *testing.T, s *runs.Store, run int, text string) {
	t.Helper()
	expectSize(t, s, run, len(text))
	if got, err := s.Read(run, 0, len(text)); got != text || err != nil {
		t.Errorf("run %d is %.60q, %v; want %.60q", run, got, err, text)
	}
}

func expectLive(t *testing.T, s *runs.Store, numbers ...int) {
	t.Helper()
	if got := s.Live(); !slices.Equal(got, numbers) {
		t.Errorf("the store has the runs %v; want %v", got, numbers)
	}
}

// expectSteps: the call makes just n steps of the store. The step behind them
// is made here, and is the one that the store was told to refuse.
func expectSteps(t *testing.T, s *runs.Store, n int, call func()) {
	t.Helper()
	s.Break(n + 1)
	call()
	if run, err := s.Create(); run != 0 || err != api.FailBroken {
		t.Errorf("not %d steps: Create() = %d, %v", n, run, err)
	}
	s.Break(0)
}

// sealed: a store with that text as its one run.
func sealed(t *testing.T, text string) *runs.Store {
	t.Helper()
	s := runs.New(len(text))
	n, err := s.Create()
	if n != 1 || err != nil || s.Append(1, text) != nil || s.Seal(1) != nil {
		t.Fatalf("no run of %d bytes", len(text))
	}
	return s
}

func expectNext(t *testing.T, r *record.Reader, want string) {
	t.Helper()
	if rec, more, err := r.Next(); rec != want || !more || err != nil {
		t.Errorf("Next() = %.60q, %v, %v; want %.60q", rec, more, err, want)
	}
}

// expectEnd: no record is left, or the run is torn there; so it stays.
func expectEnd(t *testing.T, r *record.Reader, want error) {
	t.Helper()
	for range 3 {
		if rec, more, err := r.Next(); rec != "" || more || err != want {
			t.Errorf("Next() = %.60q, %v, %v; want the end, %v", rec, more, err, want)
		}
	}
}

// expectTold: the run tells these records and then ends so, whatever the block is.
func expectTold(t *testing.T, text string, end error, recs ...string) {
	t.Helper()
	s := sealed(t, text)
	for _, block := range []int{1, 2, 3, 5, 128, 254, 255, 256, 257, 258, 512, api.MaxBlock} {
		r := from(t, s, 1, block)
		for _, rec := range recs {
			expectNext(t, r, rec)
		}
		expectEnd(t, r, end)
		if t.Failed() {
			t.Fatalf("with block %d, of %.60q", block, text)
		}
	}
}

// everyByte: all bytes, rising.
func everyByte() string {
	bytes := make([]byte, 256)
	for i := range bytes {
		bytes[i] = byte(i)
	}
	return string(bytes)
}
