package merge_test

import (
	"slices"
	"testing"

	"hornbook/api"
	"hornbook/runs"
)

// What a merge takes of the store, and what is left where that is refused.

// sample is a list of runs that is merged, and how many Appends each of its rounds takes.
type sample struct {
	fan     int
	lists   [][]string
	appends []int
}

func (c sample) steps() int {
	n := 0
	for _, appends := range c.appends {
		n += appends + 2
	}
	return n
}

// made: how many runs the rounds have made when so many steps were taken.
func (c sample) made(steps int) int {
	for n, appends := range c.appends {
		if steps == 0 {
			return n
		}
		steps = max(steps-appends-2, 0)
	}
	return len(c.appends)
}

func samples() []sample {
	words := numbered(1000)
	// The frame of a word of 128 to 255 bytes has two bytes more, that of a numbered one eight in all.
	return []sample{
		{2, [][]string{nil, nil}, []int{0}},
		{2, [][]string{{""}, nil}, []int{1}},
		{2, [][]string{{"a"}, {"b"}}, []int{1}},
		{2, [][]string{{"a"}, {"b"}, {"c"}}, []int{1, 1}},
		{2, [][]string{nil, nil, {"c"}}, []int{0, 1}},
		{2, [][]string{nil, nil, {"c"}, nil, nil}, []int{0, 1, 0, 1}},
		{3, [][]string{{"a"}, {"b"}, {"c"}}, []int{1}},
		{2, [][]string{{long(252)}, {long(255)}}, []int{1}},                    // 511: one byte less than a block
		{2, [][]string{{long(253)}, {long(255)}}, []int{1}},                    // just a block: there is no rest
		{2, [][]string{{long(254)}, {long(255)}}, []int{2}},                    // one byte more
		{2, [][]string{{long(254), long(255)}, {long(254)}, nil}, []int{2, 2}}, // with a repeat, which is left out
		{2, [][]string{words[:32], words[32:64]}, []int{1}},
		{2, [][]string{words[:32], words[32:65]}, []int{2}},
		{2, [][]string{words[:65], words[:65]}, []int{2}},
		{2, [][]string{words[:64], words[64:128], words[128:192], words[192:256]}, []int{2, 2, 4}},
		{3, [][]string{words[:64], words[64:128], words[128:192], words[192:256], words[256:257]}, []int{3, 5}},
		{4, [][]string{words[:64], words[32:96], words[64:128], words[:1], words[999:]}, []int{2, 3}},
		{2, [][]string{words[:500], words[500:]}, []int{16}},
	}
}

// layAmong: the runs of a sample, among two of others: the first and the last one, and one that is open.
func layAmong(t *testing.T, s *runs.Store, c sample) (list, others []int) {
	t.Helper()
	first := lay(t, s, "\x01z")
	list = layEach(t, s, c.lists...)
	return list, []int{first, lay(t, s, "\x01y"), layOpen(t, s, "x")}
}

const othersBytes = 5

func TestTheStepsOfAMerge(t *testing.T) { // the words of this layer: a round takes one Create, an Append a block and one for the rest, one Seal
	for n, c := range samples() {
		s := runs.New(100000)
		list, others := layAmong(t, s, c)
		all := rising(slices.Concat(c.lists...))
		answer := s.Made() + len(c.appends)
		expectSteps(t, s, c.steps(), func() { expectMerged(t, s, answer, c.fan, list...) })
		expectRun(t, s, answer, all...)
		expectLive(t, s, append(others, answer)...)
		expectUsed(t, s, othersBytes+len(framed(t, all...)), answer)
		if t.Failed() {
			t.Fatalf("sample %d", n)
		}
	}
}

func TestEachStepOfAMergeRefused(t *testing.T) { // P10.2
	for n, c := range samples() {
		for refused := 1; refused <= c.steps(); refused++ {
			s := runs.New(100000)
			list, others := layAmong(t, s, c)
			before := s.Made()
			s.Break(refused)
			expectNotMerged(t, s, api.FailBroken, c.fan, list...)
			// The writer's run, those that were handed in and those of the rounds ahead are gone.
			expectLive(t, s, others...)
			expectUsed(t, s, othersBytes, before+c.made(refused-1))
			expectBytes(t, s, others[0], "\x01z")
			expectBytes(t, s, others[1], "\x01y")
			expectNotMerged(t, s, api.FailNoRun, c.fan, list...)
			if t.Failed() {
				t.Fatalf("sample %d, step %d", n, refused)
			}
		}
		// The step behind the last one is no step of the merge.
		s := runs.New(100000)
		list, _ := layAmong(t, s, c)
		s.Break(c.steps() + 1)
		expectMerged(t, s, s.Made()+len(c.appends), c.fan, list...)
	}
}

func TestNoStepIsTakenBehindTheRefusedOne(t *testing.T) { // P10.2
	for refused := 1; refused <= 9; refused++ {
		s := runs.New(100)
		laySingles(t, s, "a", "b", "c", "d")
		s.Break(refused)
		expectNotMerged(t, s, api.FailBroken, 2, 1, 2, 3, 4)
		// A round has three steps, of which the first one makes a run.
		expectUsed(t, s, 0, 4+(refused+1)/3)
		expectLive(t, s)
		// The numbers go on where they were.
		if run := lay(t, s, ""); run != 5+(refused+1)/3 {
			t.Errorf("step %d: the next run is %d", refused, run)
		}
	}
}

func TestEachStepOfAnEmptyMergeRefused(t *testing.T) { // P10.2
	for refused := 1; refused <= 2; refused++ {
		s := runs.New(100)
		other := lay(t, s, "\x01z")
		s.Break(refused)
		expectNotMerged(t, s, api.FailBroken, 2)
		expectLive(t, s, other)
		expectUsed(t, s, 2, refused)
		expectMerged(t, s, refused+1, 2)
	}
}

func TestARefusalThatWaits(t *testing.T) { // P10.1, P10.2: what takes no step isn't refused, and the step is refused later
	s := runs.New(100)
	laySingles(t, s, "a", "b")
	s.Break(1)
	expectMerged(t, s, 1, 2, 1)
	expectNotMerged(t, s, api.FailNoRun, 2, 1, 9)
	expectNotMerged(t, s, api.FailSame, 2, 1, 1)
	expectNotMerged(t, s, api.FailLimits, 1, 1, 2)
	expectLive(t, s, 1, 2)
	expectNotMerged(t, s, api.FailBroken, 2, 1, 2)
	expectLive(t, s)
}

func TestAStoreThatIsTooSmallForAMerge(t *testing.T) { // P10.2
	for room := range 9 {
		// Runs of 2 bytes each: the rounds of fan 2 need 4, 4 and 8 bytes beside what is there.
		s := runs.New(2 + 8 + room)
		other := lay(t, s, "\x01z")
		list := laySingles(t, s, "d", "b", "a", "c")
		if room == 8 {
			expectMerged(t, s, 8, 2, list...)
			expectRun(t, s, 8, "a", "b", "c", "d")
			expectLive(t, s, other, 8)
			continue
		}
		made := 6
		if room >= 4 {
			made = 8
		}
		expectNotMerged(t, s, api.FailFull, 2, list...)
		expectLive(t, s, other)
		expectUsed(t, s, 2, made)
		expectBytes(t, s, other, "\x01z")
	}
}

func TestAStoreThatHoldsTheFirstBlocksAlone(t *testing.T) { // P10.2
	// 1600 bytes: three blocks and a rest.
	for _, room := range []int{0, 1, 511, 512, 513, 1024, 1535, 1536, 1599} {
		s := runs.New(1600 + room)
		words := numbered(200)
		list := layEach(t, s, words[:50], words[50:])
		// One Create, the Appends up to the one that is refused, and nothing behind it.
		expectSteps(t, s, room/512+2, func() { expectNotMerged(t, s, api.FailFull, 2, list...) })
		if want := 1600 + room/512*512; s.Peak() != want {
			t.Errorf("room %d: there were %d bytes at most; want %d", room, s.Peak(), want)
		}
		expectLive(t, s)
		expectUsed(t, s, 0, 3)
	}
	s := runs.New(3200)
	words := numbered(200)
	expectMerged(t, s, 3, 2, layEach(t, s, words[:50], words[50:])...)
	expectRun(t, s, 3, words...)
}

func TestTheRunsOfARoundAreRemovedBehindIt(t *testing.T) { // the words of this layer: not ahead of the writer's end, and ahead of the next round
	s := runs.New(8 + 8)
	laySingles(t, s, "a", "b", "c", "d")
	expectMerged(t, s, 5, 4, 1, 2, 3, 4)
	if s.Peak() != 16 {
		t.Errorf("there were %d bytes at most; want 16", s.Peak())
	}
	// Rounds of 4, 4, 4, 4, 8, 8 and 16 bytes beside 16 that are always there.
	s = runs.New(32)
	list := laySingles(t, s, "a", "b", "c", "d", "e", "f", "g", "h")
	expectMerged(t, s, 15, 2, list...)
	if s.Peak() != 32 {
		t.Errorf("there were %d bytes at most; want 32", s.Peak())
	}
}

func TestAStoreWithoutNumbers(t *testing.T) { // P10.2, P10.3
	s := runs.New(100)
	other := lay(t, s, "\x01z")
	list := laySingles(t, s, "a", "b", "c")
	more := laySingles(t, s, "a", "b")
	spend(t, s, api.MaxRuns-1)
	// The first round takes the last number, and there is none for the second one.
	expectNotMerged(t, s, api.FailSpent, 2, list...)
	expectLive(t, s, append([]int{other}, more...)...)
	expectMerged(t, s, other, 2, other)
	expectNotMerged(t, s, api.FailSpent, 2)
	expectNotSorted(t, s, api.FailSpent, 2, 2, "a")
	expectNotSorted(t, s, api.FailSpent, 2, 2)
	expectNotMerged(t, s, api.FailSpent, 2, more...)
	expectLive(t, s, other)
	expectBytes(t, s, other, "\x01z")
	expectUsed(t, s, 2, api.MaxRuns)
}

// spend: so many runs were made from now on.
func spend(t *testing.T, s *runs.Store, made int) {
	t.Helper()
	for s.Made() < made {
		n, err := s.Create()
		if err != nil {
			t.Fatalf("Create: %v", err)
		}
		s.Remove(n)
	}
}
