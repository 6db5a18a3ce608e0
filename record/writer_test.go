package record_test

import (
	"math"
	"slices"
	"strings"
	"testing"

	"hornbook/api"
	"hornbook/record"
	"hornbook/runs"
)

func put(t *testing.T, w *record.Writer, recs ...string) {
	t.Helper()
	expectError(t, w.Put(recs...), nil)
}

func expectNotOpened(t *testing.T, s *runs.Store, block int, want error) {
	t.Helper()
	if w, err := record.Open(s, block); w != nil || err != want {
		t.Errorf("Open with block %d: %v, %v; want %v", block, w, err, want)
	}
}

func TestOpenMakesARun(t *testing.T) { // P6.5
	for _, block := range []int{1, 2, 512, api.MaxBlock - 1, api.MaxBlock} {
		s := runs.New(10)
		var w *record.Writer
		expectSteps(t, s, 1, func() { w = open(t, s, block) })
		expectLive(t, s, 1)
		expectSize(t, s, 1, 0)
		if s.Made() != 1 || s.Used() != 0 {
			t.Errorf("%d runs were made, with %d bytes", s.Made(), s.Used())
		}
		// The run is open, and the buffer empty.
		if _, err := s.Read(1, 0, 0); err != api.FailOpen {
			t.Errorf("the run is sealed: %v", err)
		}
		expectSteps(t, s, 1, func() { expectClosed(t, w, 1) })
		expectRun(t, s, 1, "")
	}
}

func TestOpenOfNoStore(t *testing.T) { // P6.5
	for _, block := range []int{math.MinInt, -1, 0, 1, api.MaxBlock, api.MaxBlock + 1, math.MaxInt} {
		expectNotOpened(t, nil, block, api.FailNil)
	}
}

func TestOpenWithNoBlock(t *testing.T) { // P6.5
	for _, block := range []int{math.MinInt, -api.MaxBlock, -1, 0, api.MaxBlock + 1, 1 << 32, math.MaxInt} {
		s := runs.New(10)
		expectSteps(t, s, 0, func() { expectNotOpened(t, s, block, api.FailLimits) })
		// The block is asked ahead of the store, which makes no run.
		s.Break(1)
		expectNotOpened(t, s, block, api.FailLimits)
		expectLive(t, s)
		if s.Made() != 0 {
			t.Errorf("%d runs were made", s.Made())
		}
	}
}

func TestOpenThatTheStoreRefuses(t *testing.T) { // P6.5
	s := runs.New(10)
	s.Break(1)
	expectNotOpened(t, s, 1, api.FailBroken)
	expectLive(t, s)
	open(t, s, 1)
	expectLive(t, s, 1)
}

func TestOpenOfAStoreWithoutNumbers(t *testing.T) { // P6.5
	s := runs.New(10)
	for range api.MaxRuns {
		n, err := s.Create()
		if err != nil {
			t.Fatalf("Create: %v", err)
		}
		s.Remove(n)
	}
	expectNotOpened(t, s, 1, api.FailSpent)
	expectNotOpened(t, s, 0, api.FailLimits)
}

func TestPutOfNothing(t *testing.T) { // P6.6
	s := runs.New(10)
	w := open(t, s, 1)
	expectSteps(t, s, 0, func() {
		put(t, w)
		put(t, w, []string{}...)
	})
	expectSize(t, s, 1, 0)
	// An empty record is not nothing: its frame has one byte.
	expectSteps(t, s, 1, func() { put(t, w, "") })
	expectSteps(t, s, 3, func() { put(t, w, "", "", "") })
	expectSteps(t, s, 1, func() { expectClosed(t, w, 1) })
	expectRun(t, s, 1, "\x00\x00\x00\x00")
}

func TestPutAppendsFullBlocks(t *testing.T) { // P6.6, P6.7
	for _, c := range []struct {
		block  int
		recs   []string
		steps  int
		size   int
		closes int // the steps of Close
	}{
		{4, []string{"ab"}, 0, 0, 2},               // one byte less than the block
		{4, []string{"abc"}, 1, 4, 1},              // just the block
		{4, []string{"abcd"}, 1, 4, 2},             // one byte more
		{4, []string{"abcdef"}, 1, 4, 2},           // one byte less than two blocks
		{4, []string{"abcdefg"}, 2, 8, 1},          // two blocks
		{4, []string{"a", "b"}, 1, 4, 1},           // just the block, by two frames
		{4, []string{"ab", "cd"}, 1, 4, 2},         // a frame over two blocks
		{4, []string{"a", "b", "", "cd"}, 2, 8, 1}, // two blocks by four frames
		{4, []string{long(255), ""}, 64, 256, 2},   // 258 bytes
		{1, []string{"ab"}, 3, 3, 1},
		{1, []string{"", ""}, 2, 2, 1},
		{2, []string{"ab"}, 1, 2, 2},
		{3, []string{"ab", "cd", "ef", "g"}, 3, 9, 2},
		{258, []string{long(255)}, 0, 0, 2},
		{257, []string{long(255)}, 1, 257, 1},
		{256, []string{long(255)}, 1, 256, 2},
		{128, []string{long(126)}, 0, 0, 2},
		{128, []string{long(127)}, 1, 128, 1},
		{129, []string{long(128)}, 1, 129, 2},
		{130, []string{long(128)}, 1, 130, 1},
		{api.MaxBlock, slices.Repeat([]string{long(15)}, 255), 0, 0, 2},
		{api.MaxBlock, slices.Repeat([]string{long(15)}, 256), 1, api.MaxBlock, 1},
		{api.MaxBlock, slices.Repeat([]string{long(255)}, 160), 10, 10 * api.MaxBlock, 2},
	} {
		s := runs.New(50000)
		w := open(t, s, c.block)
		expectSteps(t, s, c.steps, func() { put(t, w, c.recs...) })
		expectSize(t, s, 1, c.size)
		expectSteps(t, s, c.closes, func() { expectClosed(t, w, 1) })
		frames, _ := record.Frame(c.recs...)
		expectRun(t, s, 1, frames)
		if t.Failed() {
			t.Fatalf("block %d, %d records", c.block, len(c.recs))
		}
	}
}

func TestPutFillsTheBufferBitByBit(t *testing.T) { // P6.6
	s := runs.New(100)
	w := open(t, s, 5)
	for _, c := range []struct {
		rec         string
		steps, size int
	}{
		{"", 0, 0},       // 1 byte
		{"ab", 0, 0},     // 4 bytes
		{"", 1, 5},       // the block
		{"abc", 0, 5},    // 4 bytes
		{"abcd", 1, 10},  // 9 bytes: 4 are left
		{"abcde", 2, 20}, // 10 bytes: two blocks
		{"abc", 0, 20},
	} {
		expectSteps(t, s, c.steps, func() { put(t, w, c.rec) })
		expectSize(t, s, 1, c.size)
	}
	expectClosed(t, w, 1)
	expectRun(t, s, 1, "\x00\x02ab\x00\x03abc\x04abcd\x05abcde\x03abc")
}

func TestPutOfTooLongARecord(t *testing.T) { // P6.6
	for _, recs := range [][]string{
		{long(256)},
		{long(257)},
		{long(100000)},
		{"cd", long(256)},
		{long(256), "cd"},
		{"cd", long(255), long(256), "ef"},
		{"", long(256), long(256)},
	} {
		for _, block := range []int{1, 3, 4, 512} {
			s := runs.New(100)
			w := open(t, s, block)
			put(t, w, "ab")
			size, _ := s.Size(1)
			expectSteps(t, s, 0, func() { expectError(t, w.Put(recs...), api.FailRecord) })
			expectError(t, w.Put(recs...), api.FailRecord)
			expectSize(t, s, 1, size)
			// The writer is as before: it takes records, and has none of those.
			put(t, w, "g")
			expectClosed(t, w, 1)
			expectRun(t, s, 1, "\x02ab\x01g")
		}
	}
}

func TestPutThatTheStoreRefuses(t *testing.T) { // P6.6
	for refused := 1; refused <= 4; refused++ {
		s := runs.New(100)
		w := open(t, s, 3)
		put(t, w, "a")
		s.Break(refused)
		expectError(t, w.Put("bcdefgh", "i", ""), api.FailBroken)
		// Blocks ahead of the refused one stand, those behind it do not.
		expectSize(t, s, 1, 3*(refused-1))
		expectSteps(t, s, 0, func() { expectRefuses(t, w, api.FailBroken) })
		expectSize(t, s, 1, 3*(refused-1))
		w.Drop()
		expectLive(t, s)
	}
	// The fifth step isn't made by Put any more.
	s := runs.New(100)
	w := open(t, s, 3)
	put(t, w, "a")
	s.Break(5)
	put(t, w, "bcdefgh", "i", "")
	if n, err := w.Close(); n != 0 || err != api.FailBroken {
		t.Errorf("Close() = %d, %v", n, err)
	}
}

func TestPutOfMoreThanTheStoreHolds(t *testing.T) { // P6.6
	s := runs.New(5)
	w := open(t, s, 2)
	expectError(t, w.Put("abcdef"), api.FailFull)
	expectSize(t, s, 1, 4)
	expectRefuses(t, w, api.FailFull)
	w.Drop()
	expectRefuses(t, w, api.FailClosed)
	expectLive(t, s)
}

func TestADeadWriterAnswersWhatItDiedOf(t *testing.T) { // P6.6, P6.7
	s := runs.New(4)
	other, err := s.Create()
	if err != nil || s.Append(other, "abc") != nil {
		t.Fatal("no run")
	}
	w := open(t, s, 2)
	expectError(t, w.Put("a"), api.FailFull)
	s.Remove(other)
	expectSteps(t, s, 0, func() { expectRefuses(t, w, api.FailFull) })
	s.Break(1)
	expectRefuses(t, w, api.FailFull)
	s.Remove(2)
	expectRefuses(t, w, api.FailFull)
}

func TestPutToARunThatWasTouched(t *testing.T) { // P6.6, P6.7
	for _, c := range []struct {
		touch func(s *runs.Store) error
		want  error
	}{
		{func(s *runs.Store) error { return s.Seal(1) }, api.FailSealed},
		{func(s *runs.Store) error { return s.Remove(1) }, api.FailNoRun},
	} {
		for _, byClose := range []bool{false, true} {
			s := runs.New(10)
			w := open(t, s, 2)
			put(t, w, "")
			expectError(t, c.touch(s), nil)
			put(t, w)
			if byClose {
				_, err := w.Close()
				expectError(t, err, c.want)
			} else {
				expectError(t, w.Put(""), c.want)
			}
			expectRefuses(t, w, c.want)
			w.Drop()
			expectLive(t, s)
		}
	}
}

func TestCloseAppendsTheRestAndSeals(t *testing.T) { // P6.7
	for rest, steps := range map[string]int{"": 1, "\x00": 2, "\x01a": 2} {
		s := runs.New(10)
		w := open(t, s, 3)
		put(t, w, "ab")
		recs, _ := record.Unframe(rest)
		put(t, w, recs...)
		expectSize(t, s, 1, 3)
		expectSteps(t, s, steps, func() { expectClosed(t, w, 1) })
		expectRun(t, s, 1, "\x02ab"+rest)
		expectError(t, s.Seal(1), api.FailSealed)
	}
}

func TestCloseAnswersTheRunsNumber(t *testing.T) { // P6.7
	s := runs.New(10)
	for _, want := range []int{1, 3, 5} {
		w := open(t, s, 1)
		put(t, w, "")
		// A number that another run takes meanwhile makes no difference.
		if n, err := s.Create(); n != want+1 || err != nil {
			t.Fatalf("Create() = %d, %v", n, err)
		}
		expectClosed(t, w, want)
		expectRun(t, s, want, "\x00")
	}
	expectLive(t, s, 1, 2, 3, 4, 5, 6)
}

func TestCloseWhoseAppendIsRefused(t *testing.T) { // P6.7
	s := runs.New(2)
	w := open(t, s, 2)
	put(t, w, "ab")
	expectSteps(t, s, 1, func() {
		if n, err := w.Close(); n != 0 || err != api.FailFull {
			t.Errorf("Close() = %d, %v", n, err)
		}
	})
	expectSize(t, s, 1, 2)
	// It isn't sealed, and neither Put nor Close tries again.
	expectSteps(t, s, 0, func() { expectRefuses(t, w, api.FailFull) })
	if _, err := s.Read(1, 0, 0); err != api.FailOpen {
		t.Errorf("the run is sealed: %v", err)
	}
	w.Drop()
	expectLive(t, s)

	s = runs.New(9)
	w = open(t, s, 2)
	put(t, w, "ab")
	s.Break(1)
	if n, err := w.Close(); n != 0 || err != api.FailBroken {
		t.Errorf("Close() = %d, %v", n, err)
	}
	expectSize(t, s, 1, 2)
	expectRefuses(t, w, api.FailBroken)
}

func TestCloseWhoseSealIsRefused(t *testing.T) { // P6.7
	for _, c := range []struct {
		rec     string
		refused int
		size    int
	}{{"ab", 2, 3}, {"abc", 1, 4}} {
		s := runs.New(9)
		w := open(t, s, 2)
		put(t, w, c.rec)
		s.Break(c.refused)
		if n, err := w.Close(); n != 0 || err != api.FailBroken {
			t.Errorf("Close() = %d, %v", n, err)
		}
		// The rest was appended ahead of the refusal.
		expectSize(t, s, 1, c.size)
		expectSteps(t, s, 0, func() { expectRefuses(t, w, api.FailBroken) })
		expectSize(t, s, 1, c.size)
		if _, err := s.Read(1, 0, 0); err != api.FailOpen {
			t.Errorf("the run is sealed: %v", err)
		}
		w.Drop()
		expectLive(t, s)
		expectRefuses(t, w, api.FailClosed)
	}
}

func TestCloseOfAClosedWriter(t *testing.T) { // P6.6, P6.7
	s := runs.New(9)
	w := open(t, s, 2)
	put(t, w, "ab")
	expectClosed(t, w, 1)
	expectSteps(t, s, 0, func() { expectRefuses(t, w, api.FailClosed) })
	s.Break(1)
	expectRefuses(t, w, api.FailClosed)
	expectRun(t, s, 1, "\x02ab")
}

func TestDropOfAWriter(t *testing.T) { // P6.8
	var none *record.Writer
	none.Drop()

	// A living one, with an empty buffer, with something in it, with bytes in its run.
	for _, recs := range [][]string{nil, {"a"}, {"abcdefgh"}} {
		s := runs.New(20)
		w := open(t, s, 4)
		put(t, w, recs...)
		expectSteps(t, s, 0, w.Drop)
		expectLive(t, s)
		if s.Used() != 0 {
			t.Errorf("%d bytes are left", s.Used())
		}
		expectSteps(t, s, 0, func() { expectRefuses(t, w, api.FailClosed) })
		w.Drop()
		expectRefuses(t, w, api.FailClosed)
	}
}

func TestDropLeavesARunThatCloseAnswered(t *testing.T) { // P6.8
	s := runs.New(20)
	w := open(t, s, 4)
	put(t, w, "abcdefgh")
	expectClosed(t, w, 1)
	for range 2 {
		w.Drop()
		expectLive(t, s, 1)
		expectRun(t, s, 1, "\x08abcdefgh")
		expectRefuses(t, w, api.FailClosed)
	}
}

func TestDropOfADeadWriter(t *testing.T) { // P6.8
	s := runs.New(20)
	w := open(t, s, 4)
	s.Break(1)
	expectError(t, w.Put("abc"), api.FailBroken)
	expectLive(t, s, 1)
	w.Drop()
	expectLive(t, s)
	expectRefuses(t, w, api.FailClosed)
}

func TestDropWhenTheRunIsGone(t *testing.T) { // P6.8
	for _, dead := range []bool{false, true} {
		s := runs.New(20)
		w := open(t, s, 4)
		other := open(t, s, 4)
		put(t, other, "a")
		if dead {
			s.Break(1)
			expectError(t, w.Put("abc"), api.FailBroken)
		}
		expectError(t, s.Remove(1), nil)
		w.Drop()
		expectLive(t, s, 2)
		expectRefuses(t, w, api.FailClosed)
		expectClosed(t, other, 2)
		expectRun(t, s, 2, "\x01a")
	}
}

func TestDropRemovesASealedRunOfALivingWriter(t *testing.T) { // P6.8
	s := runs.New(20)
	w := open(t, s, 4)
	expectError(t, s.Seal(1), nil)
	w.Drop()
	expectLive(t, s)
}

func TestTheDocumentsExample(t *testing.T) { // P6.6 to P6.8
	s := runs.New(3)
	w := open(t, s, 2)
	put(t, w, "ab")
	expectSize(t, s, 1, 2)
	expectClosed(t, w, 1)
	expectRun(t, s, 1, "\x02ab")

	s = runs.New(2)
	w = open(t, s, 2)
	put(t, w, "ab")
	_, err := w.Close()
	expectError(t, err, api.FailFull)
	expectRefuses(t, w, api.FailFull)
	w.Drop()
	expectLive(t, s)
}

func TestWritersSideBySide(t *testing.T) { // P2, P6.6
	s := runs.New(1000)
	a, b := open(t, s, 3), open(t, s, 5)
	var left, right []string
	for i := range 20 {
		left = append(left, strings.Repeat("a", i))
		right = append(right, strings.Repeat("b", 20-i))
		put(t, a, left[i])
		put(t, b, right[i])
	}
	expectClosed(t, b, 2)
	put(t, a, "more")
	expectClosed(t, a, 1)
	frames, _ := record.Frame(append(left, "more")...)
	expectRun(t, s, 1, frames)
	frames, _ = record.Frame(right...)
	expectRun(t, s, 2, frames)
}

func TestOneDeadWriterLeavesTheOther(t *testing.T) { // P2
	s := runs.New(10)
	a, b := open(t, s, 4), open(t, s, 4)
	expectError(t, a.Put(long(20)), api.FailFull)
	expectSize(t, s, 1, 8)
	put(t, b, "")
	a.Drop()
	put(t, b, "abcdef")
	expectClosed(t, b, 2)
	expectLive(t, s, 2)
	expectRun(t, s, 2, "\x00\x06abcdef")
}
