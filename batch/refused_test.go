package batch_test

import (
	"slices"
	"testing"

	"hornbook/api"
	"hornbook/batch"
	"hornbook/runs"
)

// What a batch takes of the store, and what is left where that is refused.

// sample is a batch of words, and how many bytes and Appends its run takes.
type sample struct {
	words          []string
	bytes, appends int
}

func samples() []sample {
	// The frame of a word of 128 to 255 bytes has two bytes more.
	return []sample{
		{[]string{""}, 1, 1},
		{[]string{"a"}, 2, 1},
		{[]string{"", "a", "b"}, 5, 1},
		{[]string{long(255), long(252)}, 511, 1}, // one byte less than a block
		{[]string{long(255), long(253)}, 512, 1}, // just a block: there is no rest
		{[]string{long(255), long(254)}, 513, 2}, // one byte more
		{[]string{long(255), long(254), long(253), long(251)}, 1021, 2},
		{[]string{long(255), long(254), long(253), long(254)}, 768, 2}, // with a repeat, which is left out
		{[]string{long(255), long(254), long(253), "a" + long(253)}, 1024, 2},
		{[]string{long(255), long(254), long(253), "a" + long(254)}, 1025, 3},
		{numbered(64), 512, 1},
		{numbered(65), 520, 2},
		{numbered(640), 5120, 10},
		{numbered(1000), 8000, 16},
	}
}

func TestTheStepsOfABatch(t *testing.T) { // the words of this layer: one Create, an Append a block and one for the rest, one Seal
	for _, c := range samples() {
		rising := slices.Compact(slices.Sorted(slices.Values(c.words)))
		// Written by Add, since the buffer is full; and by Finish, since it isn't.
		s := runs.New(100000)
		f := former(t, s, len(c.words))
		expectSteps(t, s, c.appends+2, func() { add(t, f, c.words...) })
		expectRun(t, s, 1, rising...)
		expectUsed(t, s, c.bytes, 1)
		expectFinished(t, f, 1)

		f = former(t, s, len(c.words)+1)
		expectSteps(t, s, 0, func() { add(t, f, c.words...) })
		expectSteps(t, s, c.appends+2, func() { expectFinished(t, f, 2) })
		expectRun(t, s, 2, rising...)
		expectUsed(t, s, 2*c.bytes, 2)
		if t.Failed() {
			t.Fatalf("%d words of %d bytes", len(c.words), c.bytes)
		}
	}
}

// TestEachStepOfABatchRefused: behind two whole batches the third one's steps are refused, each in turn.
func TestEachStepOfABatchRefused(t *testing.T) { // P9.2, P9.3, and the words of this layer
	for _, c := range samples() {
		for _, byFinish := range []bool{false, true} {
			for refused := 1; refused <= c.appends+2; refused++ {
				buffer := len(c.words)
				if byFinish {
					buffer++
				}
				s := runs.New(100000)
				first := foreign(t, s, "z")
				f := former(t, s, buffer)
				add(t, f, numbered(2*buffer)...)
				last := foreign(t, s, "y")
				expectLive(t, s, first, 2, 3, last)

				s.Break(refused)
				if byFinish {
					add(t, f, c.words...)
					expectNotFinished(t, f, api.FailBroken)
				} else {
					expectError(t, f.Add(c.words...), api.FailBroken)
				}
				made := 5
				if refused == 1 {
					made = 4
				}
				expectUsed(t, s, 4, made)
				expectDead(t, s, f, api.FailBroken, first, last)
				if t.Failed() {
					t.Fatalf("%d words of %d bytes, step %d, by Finish: %v", len(c.words), c.bytes, refused, byFinish)
				}
			}
		}
	}
}

// expectDead: the former answers that failure from now on, takes no step, and
// only runs of others are left; behind Drop it is closed.
func expectDead(t *testing.T, s *runs.Store, f *batch.Former, death error, others ...int) {
	t.Helper()
	used, made := s.Used(), s.Made()
	expectLive(t, s, others...)
	expectSteps(t, s, 0, func() { expectRefuses(t, f, death) })
	// A refusal that would come next is not what it died of.
	s.Break(1)
	expectRefuses(t, f, death)
	s.Break(0)
	expectSteps(t, s, 0, f.Drop)
	expectRefuses(t, f, api.FailClosed)
	f.Drop()
	expectLive(t, s, others...)
	expectUsed(t, s, used, made)
}

func TestARefusedBatchAmongOthersOfOneAdd(t *testing.T) { // P9.2
	for refused := 1; refused <= 9; refused++ {
		s := runs.New(100)
		f := former(t, s, 2)
		s.Break(refused)
		// Three batches of three steps each: what is behind the refused one isn't taken any more.
		expectError(t, f.Add("a", "b", "c", "d", "e", "f", "g"), api.FailBroken)
		expectUsed(t, s, 0, (refused+1)/3)
		expectDead(t, s, f, api.FailBroken)
	}
	// The tenth step isn't taken by Add any more, but by Finish.
	s := runs.New(100)
	f := former(t, s, 2)
	s.Break(10)
	add(t, f, "a", "b", "c", "d", "e", "f", "g")
	expectLive(t, s, 1, 2, 3)
	expectNotFinished(t, f, api.FailBroken)
	expectDead(t, s, f, api.FailBroken)
}

func TestAStoreThatIsTooSmall(t *testing.T) { // P9.2, P9.3
	words := []string{"a", "b", "c", "d", "e"} // batches of 4, 4 and 2 bytes
	for room := range 11 {
		s := runs.New(2 + room)
		other := foreign(t, s, "z")
		f := former(t, s, 2)
		err := f.Add(words...)
		switch {
		case room < 8:
			expectError(t, err, api.FailFull)
			expectUsed(t, s, 2, 2+room/4)
			expectDead(t, s, f, api.FailFull, other)
		case room < 10:
			expectError(t, err, nil)
			expectNotFinished(t, f, api.FailFull)
			expectUsed(t, s, 2, 4)
			expectDead(t, s, f, api.FailFull, other)
		default:
			expectError(t, err, nil)
			expectFinished(t, f, 2, 3, 4)
			expectUsed(t, s, 12, 4)
		}
	}
}

func TestAStoreThatHoldsTheFirstBlocksAlone(t *testing.T) { // P9.2
	// 1600 bytes: three blocks and a rest.
	for _, room := range []int{0, 1, 511, 512, 513, 1024, 1535, 1536, 1599} {
		s := runs.New(room)
		f := former(t, s, 200)
		// One Create, the Appends up to the one that is refused, and nothing behind it.
		expectSteps(t, s, room/512+2, func() { expectError(t, f.Add(numbered(500)...), api.FailFull) })
		if want := room / 512 * 512; s.Peak() != want {
			t.Errorf("room %d: %d bytes were appended; want %d", room, s.Peak(), want)
		}
		expectUsed(t, s, 0, 1)
		expectDead(t, s, f, api.FailFull)
	}
	s := runs.New(1600)
	f := former(t, s, 200)
	add(t, f, numbered(200)...)
	expectFinished(t, f, 1)
}

func TestRoomThatComesTooLate(t *testing.T) { // P9.2: the failure of which it died
	s := runs.New(4)
	other := foreign(t, s, "zz")
	f := former(t, s, 1)
	expectError(t, f.Add("a"), api.FailFull)
	expectError(t, s.Remove(other), nil)
	expectDead(t, s, f, api.FailFull)
	f = former(t, s, 1)
	add(t, f, "a")
	expectFinished(t, f, 3)
}

func TestAStoreWithoutNumbers(t *testing.T) { // P9.2
	s := runs.New(100)
	f := former(t, s, 1)
	add(t, f, "a")
	for s.Made() < api.MaxRuns {
		n, err := s.Create()
		if err != nil {
			t.Fatalf("Create: %v", err)
		}
		s.Remove(n)
	}
	g := former(t, s, 1)
	expectError(t, f.Add("b"), api.FailSpent)
	expectDead(t, s, f, api.FailSpent)
	add(t, g)
	expectError(t, g.Add("b"), api.FailSpent)
	expectDead(t, s, g, api.FailSpent)
}

func TestARunThatWasRemovedAheadOfARefusal(t *testing.T) { // P9.2
	s := runs.New(100)
	f := former(t, s, 1)
	add(t, f, "a", "b", "c")
	expectError(t, s.Remove(2), nil)
	other := foreign(t, s, "z")
	s.Break(3)
	expectError(t, f.Add("d"), api.FailBroken)
	expectUsed(t, s, 2, 5)
	expectDead(t, s, f, api.FailBroken, other)
}

func TestDropOfADeadFormer(t *testing.T) { // P9.4
	s := runs.New(100)
	f := former(t, s, 1)
	add(t, f, "a")
	s.Break(2)
	expectError(t, f.Add("b"), api.FailBroken)
	// A run that another one makes meanwhile has a number of its own, and stays.
	other := foreign(t, s, "z")
	f.Drop()
	expectRefuses(t, f, api.FailClosed)
	expectLive(t, s, other)
}
