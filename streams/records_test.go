package streams_test

import (
	"fmt"
	"math"
	"strings"
	"testing"

	"hornbook/api"
	"hornbook/record"
	"hornbook/runs"
	"hornbook/streams"
)

func TestRecordsOfNoStore(t *testing.T) { // P8.4
	for _, run := range []int{math.MinInt, -1, 0, 1, 2, math.MaxInt} {
		expectNotStreamed(t, nil, run, api.FailNil)
	}
}

func TestRecordsOfNoRun(t *testing.T) { // P8.4
	s := runs.New(100)
	for _, run := range []int{math.MinInt, -1, 0, 1, 2, math.MaxInt} {
		expectNotStreamed(t, s, run, api.FailNoRun)
		expectNotStreamed(t, new(runs.Store), run, api.FailNoRun)
	}
	first, second := written(t, s, "a"), written(t, s, "b")
	for _, run := range []int{math.MinInt, -1, 0, 3, 257, math.MaxInt} {
		expectNotStreamed(t, s, run, api.FailNoRun)
	}
	expectError(t, s.Remove(first), nil)
	expectNotStreamed(t, s, first, api.FailNoRun)
	expectGives(t, recordsOf(t, s, second), "b")
}

func TestRecordsOfAnOpenRun(t *testing.T) { // P8.4
	s := runs.New(100)
	n, _ := s.Create()
	expectNotStreamed(t, s, n, api.FailOpen)
	expectError(t, s.Append(n, "\x01a"), nil)
	expectNotStreamed(t, s, n, api.FailOpen)
	expectError(t, s.Seal(n), nil)
	expectGives(t, recordsOf(t, s, n), "a")
}

// expectRecords: of a run with these bytes.
func expectRecords(t *testing.T, text string, want ...string) {
	t.Helper()
	s := runs.New(len(text))
	expectGives(t, recordsOf(t, s, sealed(t, s, text)), want...)
	if t.Failed() {
		t.Fatalf("of a run of %.100q", text)
	}
}

func TestRecordsThatRise(t *testing.T) { // P8.4
	expectRecords(t, "")
	expectRecords(t, "\x00", "")
	expectRecords(t, "\x01a", "a")
	expectRecords(t, "\x00\x01a\x02ab\x01b", "", "a", "ab", "b")
	expectRecords(t, "\x01\x00\x01\x7f\x01\x80\x01\xff", "\x00", "\x7f", "\x80", "\xff")
	s := runs.New(10000)
	expectGives(t, recordsOf(t, s, written(t, s, edgy()...)), edgy()...)
	expectGives(t, recordsOf(t, s, written(t, s, long(1), long(254), long(255))), long(1), long(254), long(255))
}

func TestRecordsEndAtTheFirstThatDoesNotRise(t *testing.T) { // P8.4
	expectRecords(t, "\x01a\x01c\x01b\x01d", "a", "c")
	expectRecords(t, "\x01a\x01a", "a")
	expectRecords(t, "\x01a\x01a\x01b", "a")
	expectRecords(t, "\x00\x00\x01a", "")
	expectRecords(t, "\x01a\x00\x01b", "a")
	expectRecords(t, "\x01b\x01a\x01c", "b")
	expectRecords(t, "\x02ab\x01a\x01b", "ab")
	expectRecords(t, "\x01\x80\x01\x7f\x01\xff", "\x80")
	expectRecords(t, "\x01a\x01b\x01c\x01c\x01d", "a", "b", "c")
	expectRecords(t, "\x01a\x01b\x01c\x00", "a", "b", "c")
}

// faults: bytes that are no frame, whatever is behind them.
func faults() []string {
	return []string{
		"\x80\x00",                         // a last byte 0
		"\x81\x00",                         // so too
		"\x80\x02",                         // a length above MaxRecord
		"\xff\x7f",                         // so too
		strings.Repeat("\x80", 10),         // ten bytes and no end
		strings.Repeat("\xff", 9) + "\x02", // a tenth byte above 1
		strings.Repeat("\xff", 9) + "\x01" + "abc", // a length above MaxRecord
	}
}

func TestRecordsOfATornRun(t *testing.T) { // P8.4
	tails := append(faults(), "\x80", "\xff", "\x01", "\x02b", "\xff\x01"+long(254))
	for _, fault := range tails {
		expectRecords(t, fault)
		expectRecords(t, "\x00"+fault, "")
		expectRecords(t, "\x01a\x02ab"+fault, "a", "ab")
		// What doesn't rise ends the stream ahead of the fault.
		expectRecords(t, "\x01a\x01a"+fault, "a")
	}
	for _, fault := range faults() {
		expectRecords(t, fault+"\x01a")
		expectRecords(t, "\x01a"+fault+"\x01b\x01c", "a")
		expectRecords(t, "\x00"+fault+strings.Repeat("\x01b", 2000), "")
	}
}

func TestRecordsOfManyBlocks(t *testing.T) { // P8.4
	var recs []string
	for n := range 5000 {
		recs = append(recs, fmt.Sprintf("%05d", n)+long(n%200))
	}
	s := runs.New(api.MaxStore)
	whole := written(t, s, recs...)
	fallen := written(t, s, append(append([]string{}, recs[:4000]...), recs...)...)
	frames, e := record.Frame(recs[:3000]...)
	behind, e2 := record.Frame(recs[3000:]...)
	if e != api.OK || e2 != api.OK {
		t.Fatal(e, e2)
	}
	torn := sealed(t, s, frames+"\x80\x00"+behind)
	expectGives(t, recordsOf(t, s, whole), recs...)
	expectGives(t, recordsOf(t, s, fallen), recs[:4000]...)
	expectGives(t, recordsOf(t, s, torn), recs[:3000]...)
}

func TestRecordsAsParts(t *testing.T) { // P8.3, P8.4
	s := runs.New(100)
	a := recordsOf(t, s, written(t, s, "a", "c", "b", "z"))
	b := recordsOf(t, s, written(t, s, "", "b", "c"))
	none := recordsOf(t, s, written(t, s))
	expectGives(t, streams.Union(a, b, none), "", "a", "b", "c")
	expectGives(t, streams.Union(b, b), "", "b", "c")
	expectGives(t, a.Minus(b), "a")
	expectGives(t, b.Minus(a), "", "b")
	expectGives(t, b.Minus(streams.Of("")), "b", "c")
	expectGives(t, a.Common(b), "c")
	expectGives(t, a.Common(none))
	expectGives(t, b.From("a"), "b", "c")
	expectGives(t, a, "a", "c")
}

func TestRecordsTakeNoStep(t *testing.T) { // P8.4, rule 8: reading is none
	s := runs.New(100)
	run := written(t, s, "a", "b")
	s.Break(1)
	expectGives(t, recordsOf(t, s, run), "a", "b")
	expectNotStreamed(t, s, 9, api.FailNoRun)
	if n, err := s.Create(); n != 0 || err != api.FailBroken {
		t.Errorf("a step was taken: Create() = %d, %v", n, err)
	}
	if live, made := s.Live(), s.Made(); len(live) != 1 || made != 1 || s.Used() != 4 || s.Peak() != 4 {
		t.Errorf("the store has the runs %v, made %d, %d bytes, peak %d", live, made, s.Used(), s.Peak())
	}
}

func TestOtherRunsMayComeAndGo(t *testing.T) { // P8.4
	s := runs.New(1000)
	other := written(t, s, "x")
	r := recordsOf(t, s, written(t, s, "a", "b", "c"))
	n := 0
	for range r.All() {
		if n == 0 {
			expectError(t, s.Remove(other), nil)
		}
		written(t, s, "y", "z")
		n++
	}
	if n != 3 {
		t.Errorf("%d texts", n)
	}
	expectGives(t, r, "a", "b", "c")
}

func TestRecordsOfARunThatIsGone(t *testing.T) { // P8.4, P1: what it gives is free; that it ends is not
	var recs []string
	for n := range 2000 {
		recs = append(recs, fmt.Sprintf("%04d", n))
	}
	for at := range 3 {
		s := runs.New(100000)
		run := written(t, s, recs...)
		r := recordsOf(t, s, run)
		made := []streams.Stream{r, streams.Union(r, r), r.Minus(r), streams.Of("a").Minus(r), r.Common(r), r.From("b")}
		n := 0
		for range r.All() {
			if n == at*999 {
				expectError(t, s.Remove(run), nil)
			}
			n++
		}
		for _, x := range made {
			x.List(9)
			x.Count()
			x.Has("a")
		}
	}
}
