package record_test

import (
	"math"
	"runtime"
	"strings"
	"testing"

	"hornbook/api"
	"hornbook/record"
	"hornbook/runs"
)

func expectNotRead(t *testing.T, s *runs.Store, run, block int, want error) {
	t.Helper()
	if r, err := record.From(s, run, block); r != nil || err != want {
		t.Errorf("From run %d with block %d: %v, %v; want %v", run, block, r, err, want)
	}
}

func TestFromOfNoStore(t *testing.T) { // P6.9
	for _, n := range []int{math.MinInt, -1, 0, 1, api.MaxBlock, math.MaxInt} {
		expectNotRead(t, nil, n, n, api.FailNil)
		expectNotRead(t, nil, 1, n, api.FailNil)
	}
}

func TestFromWithNoBlock(t *testing.T) { // P6.9
	s := sealed(t, "\x00")
	if n, err := s.Create(); n != 2 || err != nil {
		t.Fatal("no second run")
	}
	for _, block := range []int{math.MinInt, -api.MaxBlock, -1, 0, api.MaxBlock + 1, 1 << 32, math.MaxInt} {
		// The block is asked ahead of the run: 1 is sealed, 2 is open, the others are none.
		for _, run := range []int{-1, 0, 1, 2, 3} {
			expectNotRead(t, s, run, block, api.FailLimits)
		}
	}
	for _, block := range []int{1, 2, api.MaxBlock - 1, api.MaxBlock} {
		expectNext(t, from(t, s, 1, block), "")
	}
}

func TestFromOfNoSealedRun(t *testing.T) { // P6.9
	s := sealed(t, "\x00")
	if n, err := s.Create(); n != 2 || err != nil {
		t.Fatal("no second run")
	}
	w := open(t, s, 1)
	for _, block := range []int{1, api.MaxBlock} {
		for _, run := range []int{math.MinInt, -1, 0, 4, math.MaxInt} {
			expectNotRead(t, s, run, block, api.FailNoRun)
		}
		expectNotRead(t, s, 2, block, api.FailOpen)
		expectNotRead(t, s, 3, block, api.FailOpen)
	}
	expectClosed(t, w, 3)
	expectEnd(t, from(t, s, 3, 1), nil)
	s.Remove(3)
	expectNotRead(t, s, 3, 1, api.FailNoRun)
}

func TestReadingTakesNoStep(t *testing.T) { // P6.9
	s := sealed(t, "\x01a\x01b")
	expectSteps(t, s, 0, func() {
		r := from(t, s, 1, 1)
		expectNext(t, r, "a")
		expectNext(t, r, "b")
		expectEnd(t, r, nil)
	})
	s.Break(1)
	expectNext(t, from(t, s, 1, 1), "a")
}

func TestNextOfANilReader(t *testing.T) { // P6.9
	var r *record.Reader
	expectEnd(t, r, api.FailNil)
}

func TestNextTellsTheRecords(t *testing.T) { // P6.9
	expectTold(t, "", nil)
	expectTold(t, "\x00", nil, "")
	expectTold(t, "\x00\x00\x00", nil, "", "", "")
	expectTold(t, "\x02ab\x00\x01c", nil, "ab", "", "c")
	expectTold(t, "\x02\x00\x80\x01\xff", nil, "\x00\x80", "\xff")
	expectTold(t, "\x7f"+long(127)+"\x80\x01"+long(128), nil, long(127), long(128))
	expectTold(t, "\xff\x01"+everyByte()[1:]+"\x01a\xff\x01"+long(255), nil, everyByte()[1:], "a", long(255))
}

func TestNextOfManyRecords(t *testing.T) { // P6.9
	var recs []string
	for i := range 600 {
		recs = append(recs, everyByte()[i%11:i%11+i*7%246])
	}
	frames, e := record.Frame(recs...)
	if e != api.OK {
		t.Fatalf("Frame: %d", e)
	}
	expectTold(t, frames, nil, recs...)
}

func TestNextOfATornRun(t *testing.T) { // P6.9
	for _, fault := range []string{
		"\x80",                             // a length without an end
		"\xff",                             // so too
		strings.Repeat("\x80", 9),          // so too
		strings.Repeat("\x80", 10),         // ten bytes and no end
		strings.Repeat("\xff", 30),         // more than ten
		strings.Repeat("\xff", 9) + "\x02", // a tenth byte above 1
		strings.Repeat("\x80", 9) + "\x00",
		"\x80\x00",     // a last byte 0
		"\x81\x00a",    // so too
		"\x80\x80\x00", // so too
		"\x80\x02",     // a length above MaxRecord
		"\x80\x02" + long(256),
		"\xff\x7f" + long(300),
		strings.Repeat("\xff", 9) + "\x01" + long(9),
		strings.Repeat("\x80", 9) + "\x01",
		"\x01", // too few bytes behind a length
		"\x03ab",
		"\xff\x01" + long(254),
		"\x80\x01",
	} {
		expectTold(t, fault, api.FailTorn)
		expectTold(t, "\x00"+fault, api.FailTorn, "")
		expectTold(t, "\x01a\x02bc"+fault, api.FailTorn, "a", "bc")
		expectTold(t, "\xff\x01"+long(255)+fault, api.FailTorn, long(255))
	}
}

func TestBehindAFaultNothingIsTold(t *testing.T) { // P6.9
	for _, fault := range []string{"\x80\x00", "\x80\x02", strings.Repeat("\x80", 10), strings.Repeat("\xff", 9) + "\x02"} {
		expectTold(t, "\x01a"+fault+"\x01b\x00\x01c", api.FailTorn, "a")
		expectTold(t, "\x01a"+fault+strings.Repeat("\x01b", 3000), api.FailTorn, "a")
	}
}

func TestNextAsUnframeHasThem(t *testing.T) { // P6.9
	for _, text := range allTexts("\x00\x01\x02\x03a\x80\xff", 5) {
		recs, e := unframePlainly(text)
		end := error(nil)
		if e != api.OK {
			end = api.FailTorn
		}
		s := sealed(t, text)
		for block := 1; block <= 6; block++ {
			r := from(t, s, 1, block)
			for _, rec := range recs {
				expectNext(t, r, rec)
			}
			expectEnd(t, r, end)
		}
		if t.Failed() {
			t.Fatalf("of %q", text)
		}
	}
}

func TestNextOfWhatAWriterWrote(t *testing.T) { // P6.6, P6.7, P6.9
	for _, blocks := range [][2]int{{1, 1}, {1, api.MaxBlock}, {api.MaxBlock, 1}, {7, 11}, {256, 257}, {512, 512}} {
		s := runs.New(100000)
		w := open(t, s, blocks[0])
		for n := range api.MaxRecord + 1 {
			put(t, w, long(n))
		}
		expectClosed(t, w, 1)
		r := from(t, s, 1, blocks[1])
		for n := range api.MaxRecord + 1 {
			expectNext(t, r, long(n))
		}
		expectEnd(t, r, nil)
	}
}

func TestReadersSideBySide(t *testing.T) { // P2, P6.9
	s := runs.New(100)
	w := open(t, s, 3)
	put(t, w, "a", "bc", "")
	expectClosed(t, w, 1)
	w = open(t, s, 3)
	put(t, w, "xyz")
	expectClosed(t, w, 2)
	first, second, other := from(t, s, 1, 1), from(t, s, 1, 4), from(t, s, 2, 2)
	expectNext(t, first, "a")
	expectNext(t, other, "xyz")
	expectNext(t, first, "bc")
	expectNext(t, second, "a")
	expectEnd(t, other, nil)
	expectNext(t, first, "")
	expectNext(t, second, "bc")
	expectEnd(t, first, nil)
	// A writer may write, and other runs may go, while one reads.
	w = open(t, s, 1)
	put(t, w, "new")
	expectError(t, s.Remove(2), nil)
	expectNext(t, second, "")
	expectEnd(t, second, nil)
	expectClosed(t, w, 3)
	expectNext(t, from(t, s, 3, 2), "new")
	expectEnd(t, first, nil)
}

func TestNextOfARunThatIsGone(t *testing.T) { // P6.9, P1
	s := sealed(t, strings.Repeat("\x01a", 50))
	for told := range 3 {
		r := from(t, s, 1, 2)
		for range told {
			expectNext(t, r, "a")
		}
		if told == 2 {
			s.Remove(1)
			// What it answers is free; that it ends is not.
			for range 200 {
				r.Next()
			}
		}
	}
}

func TestAReaderTakesBlockByBlock(t *testing.T) { // P6.9
	s := sealed(t, strings.Repeat("\x03abc", 1<<20))
	for _, block := range []int{1, 100, api.MaxBlock} {
		var before, behind runtime.MemStats
		runtime.ReadMemStats(&before)
		r := from(t, s, 1, block)
		expectNext(t, r, "abc")
		runtime.ReadMemStats(&behind)
		// A whole run would be 4 MiB.
		if taken := behind.TotalAlloc - before.TotalAlloc; taken > 1<<17 {
			t.Errorf("with block %d the first record takes %d bytes", block, taken)
		}
	}
}

func TestAFaultIsToldWhereItStands(t *testing.T) { // P6.9
	for _, fault := range []string{"\x80\x00", "\x80\x02", strings.Repeat("\x80", 10)} {
		s := sealed(t, fault+strings.Repeat("\x03abc", 1<<20))
		var before, behind runtime.MemStats
		runtime.ReadMemStats(&before)
		expectEnd(t, from(t, s, 1, api.MaxBlock), api.FailTorn)
		runtime.ReadMemStats(&behind)
		// What is behind the fault needn't be taken to tell it.
		if taken := behind.TotalAlloc - before.TotalAlloc; taken > 1<<17 {
			t.Errorf("the fault %q takes %d bytes", fault, taken)
		}
	}
}

func TestRecordsStay(t *testing.T) { // rule 4
	s := sealed(t, "\x01a\x01b\x01c")
	r := from(t, s, 1, 2)
	var told []string
	for range 3 {
		rec, _, _ := r.Next()
		told = append(told, rec)
	}
	s.Remove(1)
	if strings.Join(told, "") != "abc" {
		t.Errorf("the records became %q", told)
	}
}
