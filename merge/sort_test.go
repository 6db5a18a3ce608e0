package merge_test

import (
	"math"
	"slices"
	"testing"

	"hornbook/api"
	"hornbook/runs"
)

// notBuffers: none of these is the size of a buffer.
func notBuffers() []int {
	return []int{math.MinInt, -api.MaxBuffer, -1, 0, api.MaxBuffer + 1, 1 << 32, 1<<32 + 1, math.MaxInt}
}

func TestTheDocumentsExamplesOfSort(t *testing.T) { // P10.3
	s := runs.New(100)
	expectSorted(t, s, 5, 1, 2, "b", "a", "b")
	expectLive(t, s, 5)
	expectRun(t, s, 5, "a", "b")
	expectSorted(t, s, 6, 1, 2)
	expectBytes(t, s, 6, "")
}

func TestSortOfNoStore(t *testing.T) { // P10.3
	for _, buffer := range append(notBuffers(), 1, 2, api.MaxBuffer) {
		for _, fan := range append(notFans(), 2, 3, api.MaxFan) {
			expectNotSorted(t, nil, api.FailNil, buffer, fan)
			expectNotSorted(t, nil, api.FailNil, buffer, fan, "a", "b")
			expectNotSorted(t, nil, api.FailNil, buffer, fan, long(256))
		}
	}
}

func TestSortWithNoBufferOrFan(t *testing.T) { // P10.3
	s := runs.New(100)
	laySingles(t, s, "a", "b")
	refused := func(buffer, fan int) {
		t.Helper()
		expectNothing(t, s, func() {
			expectNotSorted(t, s, api.FailLimits, buffer, fan)
			expectNotSorted(t, s, api.FailLimits, buffer, fan, "c", "b")
			// A word that is too long comes behind that.
			expectNotSorted(t, s, api.FailLimits, buffer, fan, "c", long(256))
		})
	}
	for _, buffer := range notBuffers() {
		for _, fan := range append(notFans(), 2, 3, api.MaxFan) {
			refused(buffer, fan)
		}
	}
	for _, fan := range notFans() {
		for _, buffer := range []int{1, 2, 3, api.MaxBuffer} {
			refused(buffer, fan)
		}
	}
}

func TestSortWithTheLeastAndTheGreatest(t *testing.T) { // P10.3
	for _, buffer := range []int{1, 2, api.MaxBuffer - 1, api.MaxBuffer} {
		for _, fan := range []int{2, 3, api.MaxFan - 1, api.MaxFan} {
			s := runs.New(100)
			run, words := 1, []string{"c", "a", "c", "b"}
			switch {
			case buffer == 1 && fan == 2:
				run = 4 + 3
			case buffer == 1 && fan == 3:
				run = 4 + 2
			case buffer == 1:
				run = 4 + 1
			case buffer == 2:
				run = 2 + 1
			}
			expectSorted(t, s, run, buffer, fan, words...)
			expectLive(t, s, run)
			expectRun(t, s, run, "a", "b", "c")
			expectUsed(t, s, 6, run)
		}
	}
}

func TestSortOfNoWords(t *testing.T) { // P10.3
	for _, buffer := range []int{1, 2, api.MaxBuffer} {
		for _, fan := range []int{2, api.MaxFan} {
			s := runs.New(0)
			expectSteps(t, s, 2, func() { expectSorted(t, s, 1, buffer, fan) })
			expectSteps(t, s, 2, func() { expectSorted(t, s, 2, buffer, fan, []string{}...) })
			expectLive(t, s, 1, 2)
			expectBytes(t, s, 1, "")
			expectBytes(t, s, 2, "")
		}
	}
}

func TestSortOfOneWord(t *testing.T) { // P10.3
	for _, word := range []string{"", "a", "\x00", "\xff", long(127), long(128), long(255)} {
		for _, buffer := range []int{1, 2, api.MaxBuffer} {
			s := runs.New(1000)
			// There is one run, and nothing to merge.
			expectSteps(t, s, 3, func() { expectSorted(t, s, 1, buffer, 2, word) })
			expectRun(t, s, 1, word)
			expectUsed(t, s, len(framed(t, word)), 1)
		}
	}
}

func TestSortOfRepeats(t *testing.T) { // P10.3: each once
	for _, words := range [][]string{{"a", "a"}, {"a", "b", "a"}, {"", "", ""}, {"b", "a", "b", "a", "b", "a", "", ""}, slices.Repeat([]string{"w"}, 500), slices.Repeat(numbered(70), 7)} {
		for _, buffer := range []int{1, 2, 3, 100, api.MaxBuffer} {
			for _, fan := range []int{2, 3, api.MaxFan} {
				s := runs.New(1000000)
				run := lastOf(len(words), buffer, fan)
				expectSorted(t, s, run, buffer, fan, words...)
				expectLive(t, s, run)
				expectRun(t, s, run, rising(words)...)
			}
		}
	}
}

// lastOf: the number of the run that a Sort of so many words answers in a new store.
func lastOf(words, buffer, fan int) int {
	batches := (words + buffer - 1) / buffer
	if batches == 0 {
		return 1
	}
	rounds := 0
	for left := batches; left > 1; rounds++ {
		left = left - min(fan, left) + 1
	}
	return batches + rounds
}

func TestTheEmptyWord(t *testing.T) { // P10.3
	for _, buffer := range []int{1, 2, 3, 9} {
		s := runs.New(100)
		words := []string{"b", "", "a"}
		run := lastOf(3, buffer, 2)
		expectSorted(t, s, run, buffer, 2, words...)
		expectRun(t, s, run, "", "a", "b")
	}
}

func TestTooLongAWord(t *testing.T) { // P10.3
	for _, words := range [][]string{
		{long(256)},
		{long(257)},
		{long(100000)},
		{"a", long(256)},
		{long(256), "a"},
		{"a", long(255), long(256), "b"},
		{"a", "b", "c", "d", "e", long(256)},
		{"", long(256), long(300)},
		append(numbered(500), long(256)),
	} {
		for _, buffer := range []int{1, 2, 3, api.MaxBuffer} {
			s := runs.New(100000)
			lay(t, s, "\x01z")
			expectNothing(t, s, func() { expectNotSorted(t, s, api.FailRecord, buffer, 2, words...) })
			// A store that has no room, or will refuse, is not asked at all.
			s = runs.New(0)
			s.Break(1)
			expectNotSorted(t, s, api.FailRecord, buffer, 2, words...)
			expectUsed(t, s, 0, 0)
		}
	}
	// The longest words are no fault.
	s := runs.New(2000)
	expectSorted(t, s, 5, 1, 2, long(255), "a", long(254))
	expectRun(t, s, 5, "a", long(254), long(255))
}

func TestRunsOfOthersStayBehindSort(t *testing.T) { // P10.3
	s := runs.New(1000)
	first := lay(t, s, "\x01b\x01q")
	open := layOpen(t, s, "\x01c")
	expectSorted(t, s, 7, 1, 2, "c", "b", "a")
	expectLive(t, s, first, open, 7)
	expectRun(t, s, 7, "a", "b", "c")
	expectBytes(t, s, first, "\x01b\x01q")
	// An answer is a run like others.
	expectMerged(t, s, 8, 2, 7, first)
	expectRun(t, s, 8, "a", "b", "c", "q")
}

func TestTheBatchesAreMadeInTheOrderOfTheWords(t *testing.T) { // P10.3
	// Each batch in turn is refused at its end, when the store has held the bytes of the batches up to it.
	words := []string{"d", "ccc", "bbbbbbb", "aaaaaaaaaaaaaaa"}
	for _, c := range []struct {
		buffer int
		most   []int
	}{{1, []int{2, 6, 14, 30}}, {2, []int{6, 30}}, {3, []int{14, 30}}, {4, []int{30}}, {5, []int{30}}} {
		for n, most := range c.most {
			s := runs.New(100)
			s.Break(3 * (n + 1))
			expectNotSorted(t, s, api.FailBroken, c.buffer, 2, words...)
			expectUsed(t, s, 0, n+1)
			if s.Peak() != most {
				t.Errorf("buffer %d, batch %d: there were %d bytes at most; want %d", c.buffer, n+1, s.Peak(), most)
			}
		}
	}
}

func TestTheStepsOfASort(t *testing.T) { // P10.3
	words := numbered(200)
	for _, c := range []struct {
		words       []string
		buffer, fan int
		steps       int
	}{
		{words[:4], 1, 2, 4*3 + 3*3},
		{words[:4], 1, 4, 4*3 + 3},
		{words[:4], 2, 2, 2*3 + 3},
		{words[:4], 3, 2, 2*3 + 3},
		{words[:4], 4, 2, 3},
		{words[:4], 5, 2, 3},
		{words, 64, 2, 3*3 + 3 + (2 + 2) + (2 + 2) + (4 + 2)}, // batches of 64, 64, 64, 8; 1 and 2, 3 and 4, both
		{words, 64, 3, 3*3 + 3 + (3 + 2) + (4 + 2)},
		{words, 65, 4, 3*4 + 3 + (4 + 2)},
		{words, 200, 2, 4 + 2},
		{slices.Repeat([]string{"a"}, 10), 5, 2, 2*3 + 3},
	} {
		s := runs.New(100000)
		run := lastOf(len(c.words), c.buffer, c.fan)
		expectSteps(t, s, c.steps, func() { expectSorted(t, s, run, c.buffer, c.fan, mixed(c.words, 9)...) })
		expectRun(t, s, run, rising(c.words)...)
		// Each of them is refused in turn.
		for refused := 1; refused <= c.steps; refused++ {
			s := runs.New(100000)
			other, open := lay(t, s, "\x01z"), layOpen(t, s, "y")
			s.Break(refused)
			expectNotSorted(t, s, api.FailBroken, c.buffer, c.fan, mixed(c.words, 9)...)
			expectLive(t, s, other, open)
			expectUsed(t, s, 3, s.Made())
			expectBytes(t, s, other, "\x01z")
		}
		if t.Failed() {
			t.Fatalf("%d words, buffer %d, fan %d", len(c.words), c.buffer, c.fan)
		}
	}
	for refused := 1; refused <= 2; refused++ {
		s := runs.New(0)
		s.Break(refused)
		expectNotSorted(t, s, api.FailBroken, 1, 2)
		expectUsed(t, s, 0, refused-1)
		expectLive(t, s)
	}
}

func TestAStoreThatIsTooSmallForASort(t *testing.T) { // P10.3
	words := []string{"c", "a", "d", "b"} // 8 bytes, and 8 more to merge them
	for room := range 17 {
		s := runs.New(2 + room)
		other := lay(t, s, "\x01z")
		if room == 16 {
			expectSorted(t, s, 6, 1, 4, words...)
			expectLive(t, s, other, 6)
			expectRun(t, s, 6, "a", "b", "c", "d")
			continue
		}
		expectNotSorted(t, s, api.FailFull, 1, 4, words...)
		expectLive(t, s, other)
		expectUsed(t, s, 2, 2+min(room/2, 4))
		// One batch needs no second room.
		if room >= 8 {
			expectSorted(t, s, s.Made()+1, 4, 4, words...)
		}
	}
}

// TestTheAnswerIsTheSame: with every buffer and fan, and for every order.
func TestTheAnswerIsTheSame(t *testing.T) { // P10.4
	words := []string{"b", "", "ab", "a", "b", "\xff", "a\x00", "b", "", "c", "\x80", "a"}
	for buffer := 1; buffer <= len(words)+1; buffer++ {
		for _, fan := range []int{2, 3, 4, 7, api.MaxFan} {
			for seed := range 12 {
				s := runs.New(1000)
				run := lastOf(len(words), buffer, fan)
				expectSorted(t, s, run, buffer, fan, mixed(words, seed)...)
				expectRun(t, s, run, rising(words)...)
			}
		}
	}
	// All orders of a few.
	few := []string{"a", "b", "a", "", "c"}
	for order := range 120 {
		list, left := []string{}, slices.Clone(few)
		for n := order; len(left) > 0; {
			k := n % len(left)
			n /= len(left)
			list = append(list, left[k])
			left = slices.Delete(left, k, k+1)
		}
		for buffer := 1; buffer <= 5; buffer++ {
			s := runs.New(100)
			run := lastOf(5, buffer, 2)
			expectSorted(t, s, run, buffer, 2, list...)
			expectRun(t, s, run, "", "a", "b", "c")
		}
	}
}

func TestManyWords(t *testing.T) { // P10.3, P10.4
	words := numbered(70000)
	for _, c := range []struct{ buffer, fan int }{{1, 2}, {1, api.MaxFan}, {10, 3}, {1000, 2}, {api.MaxBuffer - 1, 2}, {api.MaxBuffer, api.MaxFan}} {
		s := runs.New(2 * 560000)
		run := lastOf(len(words), c.buffer, c.fan)
		expectSorted(t, s, run, c.buffer, c.fan, mixed(words, c.buffer)...)
		expectLive(t, s, run)
		expectRun(t, s, run, words...)
		if t.Failed() {
			t.Fatalf("buffer %d, fan %d", c.buffer, c.fan)
		}
	}
}

// TestTheMostBytesOfASort: never more than twice the frames of all words, beside what was there.
func TestTheMostBytesOfASort(t *testing.T) { // P10.4
	for seed := range 300 {
		next := randoms(seed)
		words := chanceWords(next, 60)
		frames := len(framed(t, words...))
		buffer, fan := 1+next(20), 2+next(5)
		// The store has room for just that: a byte more would be refused.
		s := runs.New(4 + 2*frames)
		other := lay(t, s, "\x01z")
		layOpen(t, s, "yy")
		run := 2 + lastOf(len(words), buffer, fan)
		expectSorted(t, s, run, buffer, fan, words...)
		expectLive(t, s, other, 2, run)
		expectRun(t, s, run, rising(words)...)
		if s.Peak() > 4+2*frames {
			t.Errorf("there were %d bytes at most; want %d", s.Peak(), 4+2*frames)
		}
		if t.Failed() {
			t.Fatalf("seed %d: %d words of %d bytes, buffer %d, fan %d", seed, len(words), frames, buffer, fan)
		}
	}
	// Without repeats, and with more than one run, it is just twice that.
	s := runs.New(1000)
	expectSorted(t, s, 7, 1, 2, "d", "b", "c", "a")
	if s.Peak() != 16 {
		t.Errorf("there were %d bytes at most; want 16", s.Peak())
	}
}
