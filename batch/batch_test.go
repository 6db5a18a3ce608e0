package batch_test

import (
	"math"
	"slices"
	"testing"

	"hornbook/api"
	"hornbook/runs"
)

func TestNewMakesNoRuns(t *testing.T) { // P9.1
	for _, buffer := range []int{1, 2, 3, 1000, api.MaxBuffer - 1, api.MaxBuffer} {
		s := runs.New(100)
		expectSteps(t, s, 0, func() { former(t, s, buffer) })
		expectLive(t, s)
		expectUsed(t, s, 0, 0)
		// With an empty buffer and no runs there is nothing to finish.
		f := former(t, s, buffer)
		expectSteps(t, s, 0, func() { expectFinished(t, f) })
	}
}

func TestNewOfNoStore(t *testing.T) { // P9.1
	for _, buffer := range []int{math.MinInt, -1, 0, 1, api.MaxBuffer, api.MaxBuffer + 1, math.MaxInt} {
		expectNotMade(t, nil, buffer, api.FailNil)
	}
}

func TestNewWithNoBuffer(t *testing.T) { // P9.1
	for _, buffer := range []int{math.MinInt, -api.MaxBuffer, -1, 0, api.MaxBuffer + 1, 1 << 32, 1<<32 + 1, math.MaxInt} {
		s := runs.New(100)
		expectSteps(t, s, 0, func() { expectNotMade(t, s, buffer, api.FailLimits) })
		expectLive(t, s)
		expectUsed(t, s, 0, 0)
	}
}

func TestNewAsksNothingOfTheStore(t *testing.T) { // P9.1
	// A store without room, and one that will refuse the next step: the batch finds it, not New.
	s := runs.New(0)
	expectError(t, former(t, s, 1).Add("a"), api.FailFull)
	s.Break(1)
	f := former(t, s, 1)
	expectError(t, f.Add("a"), api.FailBroken)
}

func TestTheDocumentsExamples(t *testing.T) { // P9.2, P9.3
	s := runs.New(100)
	f := former(t, s, 2)
	add(t, f, "b", "a", "c")
	add(t, f, "c")
	expectRun(t, s, 1, "a", "b")
	expectRun(t, s, 2, "c")
	expectFinished(t, f, 1, 2)

	s = runs.New(100)
	f = former(t, s, 3)
	add(t, f, "b", "a", "c")
	add(t, f, "c")
	expectRun(t, s, 1, "a", "b", "c")
	expectLive(t, s, 1)
	expectFinished(t, f, 1, 2)
	expectRun(t, s, 2, "c")

	expectFinished(t, former(t, s, 2))
}

func TestAddOfNothing(t *testing.T) { // P9.2
	s := runs.New(100)
	for _, buffer := range []int{1, 2} {
		f := former(t, s, buffer)
		expectSteps(t, s, 0, func() {
			add(t, f)
			add(t, f, []string{}...)
		})
		expectSteps(t, s, 0, func() { expectFinished(t, f) })
	}
	expectLive(t, s)
	// Behind words that wait it writes none of them.
	f := former(t, s, 2)
	add(t, f, "a")
	expectSteps(t, s, 0, func() { add(t, f) })
	expectFinished(t, f, 1)
	expectRun(t, s, 1, "a")
}

func TestAddUpToAFullBuffer(t *testing.T) { // P9.2, P9.3
	for _, c := range []struct {
		buffer, words int
		full          int // runs that Add makes
		all           int // runs behind Finish
	}{
		{1, 1, 1, 1},
		{1, 2, 2, 2},
		{1, 50, 50, 50},
		{2, 1, 0, 1},
		{2, 2, 1, 1},
		{2, 3, 1, 2},
		{2, 4, 2, 2},
		{7, 6, 0, 1},
		{7, 7, 1, 1},
		{7, 8, 1, 2},
		{7, 13, 1, 2},
		{7, 14, 2, 2},
		{7, 15, 2, 3},
		{7, 7000, 1000, 1000},
		{api.MaxBuffer, api.MaxBuffer - 1, 0, 1},
		{api.MaxBuffer, api.MaxBuffer, 1, 1},
		{api.MaxBuffer, api.MaxBuffer + 1, 1, 2},
		{api.MaxBuffer, 3 * api.MaxBuffer, 3, 3},
	} {
		s := runs.New(api.MaxStore)
		f := former(t, s, c.buffer)
		words := falling(numbered(c.words))
		add(t, f, words...)
		if len(s.Live()) != c.full {
			t.Errorf("buffer %d: %d words make %d runs; want %d", c.buffer, c.words, len(s.Live()), c.full)
		}
		numbers := make([]int, c.all)
		for i := range numbers {
			numbers[i] = i + 1
		}
		expectFinished(t, f, numbers...)
		expectLive(t, s, numbers...)
		for i := range numbers {
			part := words[i*c.buffer : min(len(words), (i+1)*c.buffer)]
			expectRun(t, s, i+1, falling(part)...)
		}
		if t.Failed() {
			t.Fatalf("buffer %d, %d words", c.buffer, c.words)
		}
	}
}

func TestAddByManyCallsIsAddByOne(t *testing.T) { // P9.2
	words := []string{"e", "b", "", "b", "e", "a", "d", "c", "a", "a", "\xff", "f"}
	for buffer := 1; buffer <= len(words)+1; buffer++ {
		one, many := runs.New(100), runs.New(100)
		f, g := former(t, one, buffer), former(t, many, buffer)
		add(t, f, words...)
		for i := 0; i < len(words); i += 1 + i%3 {
			add(t, g, words[i:min(len(words), i+1+i%3)]...)
		}
		got, _ := f.Finish()
		expectFinished(t, g, got...)
		for _, run := range got {
			size, _ := one.Size(run)
			text, _ := one.Read(run, 0, size)
			if other, _ := many.Read(run, 0, size); other != text {
				t.Errorf("buffer %d, run %d: %q by one call, %q by many", buffer, run, text, other)
			}
		}
	}
}

func TestABatchIsWrittenAsSoonAsTheBufferIsFull(t *testing.T) { // P9.2
	s := runs.New(1000)
	f := former(t, s, 3)
	for n, want := range []int{0, 0, 1, 1, 1, 2, 2, 2, 3} {
		add(t, f, "w")
		if len(s.Live()) != want {
			t.Errorf("behind word %d there are the runs %v; want %d", n+1, s.Live(), want)
		}
		for _, run := range s.Live() {
			// A run that stands there is whole and sealed.
			expectRun(t, s, run, "w")
		}
	}
}

func TestRepeatsAreCountedAndLeftOut(t *testing.T) { // P9.2
	s := runs.New(1000)
	f := former(t, s, 4)
	add(t, f, "b", "b", "a", "b")
	expectRun(t, s, 1, "a", "b")
	add(t, f, "a", "a", "a")
	expectLive(t, s, 1)
	add(t, f, "a")
	expectRun(t, s, 2, "a")
	// Of two batches each has its own: what an earlier run holds is no repeat.
	add(t, f, "a", "", "a", "")
	expectRun(t, s, 3, "", "a")
	add(t, f, "c", "c")
	expectFinished(t, f, 1, 2, 3, 4)
	expectRun(t, s, 4, "c")
}

func TestTheEmptyWord(t *testing.T) { // P9.2, P9.3
	s := runs.New(100)
	f := former(t, s, 1)
	add(t, f, "")
	expectRun(t, s, 1, "")
	expectFinished(t, f, 1)
	f = former(t, s, 3)
	add(t, f, "b", "", "a")
	expectRun(t, s, 2, "", "a", "b")
	// An empty word in the buffer is not an empty buffer.
	add(t, f, "")
	expectFinished(t, f, 2, 3)
	expectRun(t, s, 3, "")
}

func TestWordsAreSortedByTheirBytes(t *testing.T) { // P9.2
	rising := []string{"", "\x00", "\x00\x00", "A", "Z", "a", "a\x00", "a\x00b", "aa", "aaa", "ab", "b",
		"\x7f", "\x7f\xff", "\x80", "\xc3\xa4", "\xe4", "\xff", "\xff\x00", "\xff\xff"}
	for seed := range 40 {
		next := randoms(seed)
		mixed := slices.Clone(rising)
		for i := range mixed {
			k := next(i + 1)
			mixed[i], mixed[k] = mixed[k], mixed[i]
		}
		s := runs.New(1000)
		f := former(t, s, len(mixed))
		add(t, f, mixed...)
		expectRun(t, s, 1, rising...)
	}
}

func TestWordsOfEachLength(t *testing.T) { // P9.2
	s := runs.New(100000)
	f := former(t, s, api.MaxRecord+1)
	var all []string
	for n := range api.MaxRecord + 1 {
		all = append(all, long(n))
	}
	add(t, f, falling(all)...)
	expectRun(t, s, 1, all...)
	f = former(t, s, 1)
	add(t, f, long(api.MaxRecord-1), long(api.MaxRecord))
	expectRun(t, s, 2, long(254))
	expectRun(t, s, 3, long(255))
}

func TestAddOfTooLongAWord(t *testing.T) { // P9.2
	for _, words := range [][]string{
		{long(256)},
		{long(257)},
		{long(100000)},
		{"c", long(256)},
		{long(256), "c"},
		{"c", long(255), long(256), "d"},
		{"c", "d", "e", "f", "g", long(256)},
		{"", long(256), long(300)},
	} {
		for buffer := 1; buffer <= 5; buffer++ {
			s := runs.New(1000)
			f := former(t, s, buffer)
			add(t, f, "b")
			live := s.Live()
			for range 2 {
				expectSteps(t, s, 0, func() { expectError(t, f.Add(words...), api.FailRecord) })
			}
			expectLive(t, s, live...)
			// The former is as before: it takes words, and has none of those.
			add(t, f, "a")
			if buffer == 1 {
				expectFinished(t, f, 1, 2)
				expectRun(t, s, 1, "b")
				expectRun(t, s, 2, "a")
			} else {
				expectFinished(t, f, 1)
				expectRun(t, s, 1, "a", "b")
			}
		}
	}
}

func TestFinishOfNothing(t *testing.T) { // P9.3
	s := runs.New(100)
	other := foreign(t, s, "z")
	f := former(t, s, 3)
	expectSteps(t, s, 0, func() { expectFinished(t, f) })
	expectLive(t, s, other)
	// Also if a step would be refused: it takes none.
	f = former(t, s, 3)
	s.Break(1)
	expectFinished(t, f)
}

func TestFinishBehindFullBatches(t *testing.T) { // P9.3
	s := runs.New(100)
	f := former(t, s, 2)
	add(t, f, "a", "b", "d", "c")
	expectSteps(t, s, 0, func() { expectFinished(t, f, 1, 2) })
	expectLive(t, s, 1, 2)
	expectUsed(t, s, 8, 2)
}

func TestFinishWritesTheRest(t *testing.T) { // P9.3
	s := runs.New(100)
	f := former(t, s, 4)
	add(t, f, "d", "b", "d")
	expectUsed(t, s, 0, 0)
	expectSteps(t, s, 3, func() { expectFinished(t, f, 1) })
	expectRun(t, s, 1, "b", "d")

	f = former(t, s, 2)
	add(t, f, "b", "a", "c")
	expectSteps(t, s, 3, func() { expectFinished(t, f, 2, 3) })
	expectRun(t, s, 2, "a", "b")
	expectRun(t, s, 3, "c")
}

func TestFinishAnswersTheRunsAsTheyWereMade(t *testing.T) { // P9.3
	s := runs.New(100)
	f := former(t, s, 1)
	foreign(t, s)
	add(t, f, "c")
	foreign(t, s)
	foreign(t, s)
	add(t, f, "b", "a")
	foreign(t, s)
	// A run that was taken away meanwhile was made all the same.
	expectError(t, s.Remove(5), nil)
	expectFinished(t, f, 2, 5, 6)
	expectLive(t, s, 1, 2, 3, 4, 6, 7)
	expectRun(t, s, 2, "c")
	expectRun(t, s, 6, "a")
}

func TestAClosedFormerTakesNoStep(t *testing.T) { // P9.2, P9.3
	s := runs.New(100)
	f := former(t, s, 1)
	add(t, f, "a")
	expectFinished(t, f, 1)
	expectSteps(t, s, 0, func() { expectRefuses(t, f, api.FailClosed) })
	s.Break(1)
	expectRefuses(t, f, api.FailClosed)
	expectRun(t, s, 1, "a")
	expectLive(t, s, 1)
}

func TestDropAheadOfAnyWord(t *testing.T) { // P9.4
	s := runs.New(100)
	other := foreign(t, s, "z")
	f := former(t, s, 2)
	expectSteps(t, s, 0, f.Drop)
	expectRefuses(t, f, api.FailClosed)
	expectLive(t, s, other)
}

func TestDropRemovesTheRuns(t *testing.T) { // P9.4
	for _, words := range [][]string{{"a"}, {"a", "b"}, {"a", "b", "c"}, numbered(12), numbered(13)} {
		s := runs.New(1000)
		first := foreign(t, s, "z")
		f := former(t, s, 2)
		add(t, f, words...)
		last := foreign(t, s, "y")
		expectSteps(t, s, 0, f.Drop)
		expectLive(t, s, first, last)
		expectUsed(t, s, 4, 2+len(words)/2)
		expectRun(t, s, first, "z")
		expectRun(t, s, last, "y")
		expectSteps(t, s, 0, func() { expectRefuses(t, f, api.FailClosed) })
		expectLive(t, s, first, last)
	}
}

func TestDropBehindFinishLeavesTheRuns(t *testing.T) { // P9.4
	s := runs.New(100)
	f := former(t, s, 2)
	add(t, f, "a", "b", "c")
	expectFinished(t, f, 1, 2)
	for range 2 {
		expectSteps(t, s, 0, f.Drop)
		expectLive(t, s, 1, 2)
		expectRun(t, s, 1, "a", "b")
		expectRun(t, s, 2, "c")
		expectRefuses(t, f, api.FailClosed)
	}
}

func TestDropTwice(t *testing.T) { // P9.4
	s := runs.New(100)
	f := former(t, s, 1)
	add(t, f, "a", "b")
	f.Drop()
	expectLive(t, s)
	other := foreign(t, s, "z")
	f.Drop()
	expectLive(t, s, other)
	expectRefuses(t, f, api.FailClosed)
}

func TestDropWhereARunWasRemovedMeanwhile(t *testing.T) { // P9.4
	for gone := 1; gone <= 3; gone++ {
		s := runs.New(100)
		f := former(t, s, 1)
		add(t, f, "a", "b", "c")
		expectError(t, s.Remove(gone), nil)
		other := foreign(t, s, "z")
		f.Drop()
		expectLive(t, s, other)
		expectUsed(t, s, 2, 4)
		expectRefuses(t, f, api.FailClosed)
	}
	s := runs.New(100)
	f := former(t, s, 1)
	add(t, f, "a", "b")
	expectError(t, s.Remove(1), nil)
	expectError(t, s.Remove(2), nil)
	f.Drop()
	expectLive(t, s)
	expectRefuses(t, f, api.FailClosed)
}

func TestFormersInTurnsOnOneStore(t *testing.T) { // P9.5
	s := runs.New(1000)
	f, g := former(t, s, 2), former(t, s, 3)
	for i, w := range []string{"e", "d", "c", "b", "a"} {
		add(t, f, w)
		add(t, g, w, "g"+w)
		if i == 2 {
			expectLive(t, s, 1, 2, 3)
		}
	}
	// The words come e, d, c, b, a to the one, e, ge, d, gd, c, gc, b, gb, a, ga to the other.
	expectRun(t, s, 1, "d", "e")
	expectRun(t, s, 2, "d", "e", "ge")
	expectRun(t, s, 3, "c", "gc", "gd")
	expectRun(t, s, 4, "b", "c")
	expectRun(t, s, 5, "a", "b", "gb")
	expectFinished(t, g, 2, 3, 5, 6)
	expectFinished(t, f, 1, 4, 7)
	expectRun(t, s, 6, "ga")
	expectRun(t, s, 7, "a")
}

func TestOneFormersEndLeavesTheOthersRuns(t *testing.T) { // P9.4, P9.5
	s := runs.New(1000)
	f, g, h := former(t, s, 1), former(t, s, 1), former(t, s, 1)
	for _, w := range []string{"a", "b"} {
		add(t, f, "f"+w)
		add(t, g, "g"+w)
		add(t, h, "h"+w)
	}
	f.Drop()
	expectLive(t, s, 2, 3, 5, 6)
	s.Break(2)
	expectError(t, g.Add("gc"), api.FailBroken)
	expectLive(t, s, 3, 6)
	add(t, h, "hc")
	expectRefuses(t, f, api.FailClosed)
	expectRefuses(t, g, api.FailBroken)
	expectFinished(t, h, 3, 6, 8)
	g.Drop()
	f.Drop()
	expectLive(t, s, 3, 6, 8)
	for run, w := range map[int]string{3: "ha", 6: "hb", 8: "hc"} {
		expectRun(t, s, run, w)
	}
}
