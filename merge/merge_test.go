package merge_test

import (
	"math"
	"slices"
	"strings"
	"testing"

	"hornbook/api"
	"hornbook/runs"
	"hornbook/streams"
)

// notFans: none of these is a fan.
func notFans() []int {
	return []int{math.MinInt, -api.MaxFan, -2, -1, 0, 1, api.MaxFan + 1, 256, 1 << 32, 1<<32 + 2, math.MaxInt}
}

func TestTheDocumentsExamplesOfMerge(t *testing.T) { // P10.1
	s := runs.New(100)
	layEach(t, s, []string{"a", "c"}, []string{"b"}, []string{"c"})
	expectMerged(t, s, 5, 2, 1, 2, 3)
	expectLive(t, s, 5)
	expectRun(t, s, 5, "a", "b", "c")
	expectNotMerged(t, s, api.FailLimits, 1)
	expectNotMerged(t, s, api.FailNoRun, 2, 7)
}

func TestMergeOfNoStore(t *testing.T) { // P10.1
	for _, fan := range append(notFans(), 2, 3, api.MaxFan) {
		expectNotMerged(t, nil, api.FailNil, fan)
		expectNotMerged(t, nil, api.FailNil, fan, 1)
		expectNotMerged(t, nil, api.FailNil, fan, 0, 0)
		expectNotMerged(t, nil, api.FailNil, fan, math.MinInt, math.MaxInt, -1)
	}
}

func TestMergeWithNoFan(t *testing.T) { // P10.1
	s := runs.New(100)
	laySingles(t, s, "a", "b", "c")
	open := layOpen(t, s, "z")
	for _, fan := range notFans() {
		expectNothing(t, s, func() {
			expectNotMerged(t, s, api.FailLimits, fan)
			expectNotMerged(t, s, api.FailLimits, fan, 1)
			expectNotMerged(t, s, api.FailLimits, fan, 1, 2, 3)
			// What is the matter with the runs comes behind that.
			expectNotMerged(t, s, api.FailLimits, fan, 9)
			expectNotMerged(t, s, api.FailLimits, fan, open)
			expectNotMerged(t, s, api.FailLimits, fan, 1, 1)
		})
	}
}

func TestMergeWithEachFan(t *testing.T) { // P10.1
	words := numbered(200)
	for fan := 2; fan <= api.MaxFan; fan++ {
		s := runs.New(100000)
		list := laySingles(t, s, mixed(words, fan)...)
		// Each round takes fan runs away and puts one; the last one takes what is left.
		answer := 200 + (199+fan-2)/(fan-1)
		expectMerged(t, s, answer, fan, list...)
		expectLive(t, s, answer)
		expectRun(t, s, answer, words...)
		expectUsed(t, s, 1600, answer)
	}
}

func TestMergeOfNoRuns(t *testing.T) { // P10.1
	for _, fan := range []int{2, 3, api.MaxFan} {
		s := runs.New(100)
		expectSteps(t, s, 2, func() { expectMerged(t, s, 1, fan) })
		expectSteps(t, s, 2, func() { expectMerged(t, s, 2, fan, []int{}...) })
		expectBytes(t, s, 1, "")
		expectBytes(t, s, 2, "")
		expectLive(t, s, 1, 2)
		// A store without room has room for that.
		s = runs.New(0)
		expectMerged(t, s, 1, fan)
		expectBytes(t, s, 1, "")
	}
}

func TestMergeOfOneRun(t *testing.T) { // P10.1: as it is, also if not all of it stands in it
	for _, text := range []string{"", "\x00", "\x01a", "\x01a\x01b", "\x01b\x01a", "\x01a\x01a", "\x01a\x02b", "\x80\x00", strings.Repeat("\x01a", 2000)} {
		for _, fan := range []int{2, 3, api.MaxFan} {
			s := runs.New(10000)
			other := lay(t, s, "\x01z")
			run := lay(t, s, text)
			open := layOpen(t, s, "y")
			expectNothing(t, s, func() {
				expectMerged(t, s, run, fan, run)
				expectMerged(t, s, run, fan, run)
			})
			expectLive(t, s, other, run, open)
			expectBytes(t, s, run, text)
		}
	}
}

func TestHowManyRoundsThereAre(t *testing.T) { // the words of this layer
	for _, c := range []struct{ fan, runs, rounds int }{
		{2, 1, 0}, {2, 2, 1}, {2, 3, 2}, {2, 4, 3}, {2, 5, 4}, {2, 64, 63}, {2, 1000, 999},
		{3, 1, 0}, {3, 2, 1}, {3, 3, 1}, {3, 4, 2}, {3, 5, 2}, {3, 6, 3}, {3, 7, 3}, {3, 9, 4}, {3, 300, 150},
		{4, 3, 1}, {4, 4, 1}, {4, 5, 2}, {4, 7, 2}, {4, 8, 3},
		{63, 62, 1}, {63, 63, 1}, {63, 64, 2},
		{64, 2, 1}, {64, 63, 1}, {64, 64, 1}, {64, 65, 2}, {64, 66, 2}, {64, 127, 2}, {64, 128, 3}, {64, 6400, 102},
	} {
		s := runs.New(api.MaxStore)
		words := numbered(c.runs)
		list := laySingles(t, s, words...)
		expectMerged(t, s, c.runs+c.rounds, c.fan, list...)
		expectLive(t, s, c.runs+c.rounds)
		expectRun(t, s, c.runs+c.rounds, words...)
		expectUsed(t, s, 8*c.runs, c.runs+c.rounds)
		if t.Failed() {
			t.Fatalf("fan %d, %d runs", c.fan, c.runs)
		}
	}
}

// TestWhichRunsAreMergedWithWhich: the sums of these sizes tell of which runs they are. Each
// round in turn is refused at its end, when the store has held 62 bytes and the round's own.
func TestWhichRunsAreMergedWithWhich(t *testing.T) { // the words of this layer
	for _, c := range []struct {
		fan  int
		list []int
		most []int // the most bytes of a round so far
	}{
		{2, []int{1, 2, 3, 4, 5}, []int{2 + 4, 8 + 16, 32 + 2 + 4, 62}},
		{2, []int{5, 4, 3, 2, 1}, []int{32 + 16, 32 + 16, 2 + 32 + 16, 62}},
		{2, []int{3, 1, 5, 2, 4}, []int{8 + 2, 32 + 4, 32 + 4, 62}},
		{2, []int{1, 2, 3, 5}, []int{2 + 4, 8 + 32, 46}},
		{2, []int{2, 1, 3}, []int{4 + 2, 8 + 4 + 2}},
		{2, []int{3, 1, 2}, []int{8 + 2, 8 + 4 + 2}},
		{3, []int{1, 2, 3, 4, 5}, []int{2 + 4 + 8, 62}},
		{3, []int{5, 4, 3, 2, 1}, []int{32 + 16 + 8, 62}},
		{3, []int{1, 2, 3, 4}, []int{2 + 4 + 8, 30}},
		{4, []int{1, 2, 3, 4, 5}, []int{2 + 4 + 8 + 16, 62}},
		{4, []int{2, 3, 1, 5, 4}, []int{4 + 8 + 2 + 32, 62}},
		{5, []int{1, 2, 3, 4, 5}, []int{62}},
		{64, []int{4, 5}, []int{48}},
	} {
		for round, most := range c.most {
			s := runs.New(1000)
			for n := range 5 {
				lay(t, s, framed(t, strings.Repeat(string(rune('a'+n)), 2<<n-1)))
			}
			// A Create, an Append and a Seal a round: none has a whole block.
			s.Break(3 * (round + 1))
			expectNotMerged(t, s, api.FailBroken, c.fan, c.list...)
			if s.Peak() != 62+most {
				t.Errorf("fan %d, %v: the most bytes of a round up to the round %d are %d; want %d", c.fan, c.list, round+1, s.Peak()-62, most)
			}
		}
		s := runs.New(1000)
		for n := range 5 {
			lay(t, s, framed(t, strings.Repeat(string(rune('a'+n)), 2<<n-1)))
		}
		expectSteps(t, s, 3*len(c.most), func() { expectMerged(t, s, 5+len(c.most), c.fan, c.list...) })
	}
}

func TestTheOrderOfTheListIsKept(t *testing.T) { // P10.1: what stands in the answer doesn't hang on it
	lists := [][]string{{"a", "d"}, {"b"}, {"", "c", "e"}, {}, {"d", "f"}}
	for seed := range 50 {
		s := runs.New(1000)
		order := []int{1, 2, 3, 4, 5}
		layEach(t, s, lists...)
		next := randoms(seed)
		for i := range order {
			k := next(i + 1)
			order[i], order[k] = order[k], order[i]
		}
		expectMerged(t, s, 9, 2, order...)
		expectRun(t, s, 9, "", "a", "b", "c", "d", "e", "f")
	}
}

func TestRunsOfOthersStay(t *testing.T) { // P10.1
	s := runs.New(1000)
	first := lay(t, s, "\x01a\x01q")
	list := []int{lay(t, s, "\x01b")}
	open := layOpen(t, s, "\x01c")
	list = append(list, lay(t, s, "\x01d"))
	torn := lay(t, s, "\x80")
	list = append(list, lay(t, s, "\x01e"))
	expectMerged(t, s, 8, 2, list...)
	expectLive(t, s, first, open, torn, 8)
	expectRun(t, s, 8, "b", "d", "e")
	expectBytes(t, s, first, "\x01a\x01q")
	expectBytes(t, s, torn, "\x80")
	// The open one is open still.
	if err := s.Append(open, "\x01d"); err != nil {
		t.Error(err)
	}
	if err := s.Seal(open); err != nil {
		t.Error(err)
	}
	expectBytes(t, s, open, "\x01c\x01d")
}

func TestTheAnswerMayBeMergedAgain(t *testing.T) { // P10.1
	s := runs.New(1000)
	laySingles(t, s, "c", "a", "b")
	expectMerged(t, s, 4, 2, 1, 2)
	expectMerged(t, s, 5, 2, 4, 3)
	expectMerged(t, s, 5, 2, 5)
	expectMerged(t, s, 6, 2)
	expectMerged(t, s, 7, 2, 5, 6)
	expectLive(t, s, 7)
	expectRun(t, s, 7, "a", "b", "c")
}

func TestRunsThatCannotBeMerged(t *testing.T) { // P10.1
	s := runs.New(1000)
	laySingles(t, s, "a", "b", "c")
	const open, gone, never = 4, 5, 6
	layOpen(t, s, "\x01d")
	lay(t, s, "\x01e")
	s.Remove(gone)
	for _, c := range []struct {
		want error
		list []int
	}{
		{api.FailNoRun, []int{never}}, {api.FailNoRun, []int{gone}}, {api.FailNoRun, []int{0}}, {api.FailNoRun, []int{-1}},
		{api.FailNoRun, []int{math.MinInt}}, {api.FailNoRun, []int{math.MaxInt}}, {api.FailNoRun, []int{1 << 32, 1}}, {api.FailNoRun, []int{1<<32 + 1, 1}},
		{api.FailNoRun, []int{gone, 1}}, {api.FailNoRun, []int{1, gone}}, {api.FailNoRun, []int{1, never, 2}}, {api.FailNoRun, []int{1, 2, 3, never}},
		{api.FailOpen, []int{open}}, {api.FailOpen, []int{open, 1}}, {api.FailOpen, []int{1, open}}, {api.FailOpen, []int{1, open, 2}}, {api.FailOpen, []int{1, 2, 3, open}},
		{api.FailSame, []int{1, 1}}, {api.FailSame, []int{1, 1, 2}}, {api.FailSame, []int{1, 2, 1}}, {api.FailSame, []int{1, 2, 2}}, {api.FailSame, []int{3, 2, 1, 3}}, {api.FailSame, []int{2, 2, 2, 2}},
		// Of several the first run at fault is told, and of a run the first fault.
		{api.FailNoRun, []int{gone, open}}, {api.FailOpen, []int{open, gone}},
		{api.FailNoRun, []int{1, gone, 1}}, {api.FailSame, []int{1, 1, gone}}, {api.FailNoRun, []int{gone, 1, 1}},
		{api.FailOpen, []int{1, open, 1}}, {api.FailSame, []int{1, 1, open}}, {api.FailOpen, []int{open, 1, 1}},
		{api.FailNoRun, []int{gone, gone}}, {api.FailNoRun, []int{never, never}}, {api.FailOpen, []int{open, open}},
		{api.FailNoRun, []int{1, 2, gone, open, 2}}, {api.FailOpen, []int{1, 2, open, gone, 2}}, {api.FailSame, []int{1, 2, 1, open, gone}},
		{api.FailOpen, []int{1, open, open, 1, gone, gone}},
	} {
		for _, fan := range []int{2, 3, api.MaxFan} {
			expectNothing(t, s, func() { expectNotMerged(t, s, c.want, fan, c.list...) })
		}
		if t.Failed() {
			t.Fatalf("%v: want %v", c.list, c.want)
		}
	}
	// The runs are there still, and may be merged.
	expectMerged(t, s, 6, 3, 1, 2, 3)
	expectRun(t, s, 6, "a", "b", "c")
}

func TestALongListWithAFaultAtItsEnd(t *testing.T) { // P10.1: all are looked at ahead of the first round
	s := runs.New(100000)
	list := laySingles(t, s, numbered(3000)...)
	open := layOpen(t, s, "\x01a")
	for _, c := range []struct {
		want error
		last int
	}{{api.FailNoRun, 9999}, {api.FailOpen, open}, {api.FailSame, 1}, {api.FailSame, 1500}, {api.FailSame, 3000}} {
		for _, fan := range []int{2, api.MaxFan} {
			expectNothing(t, s, func() { expectNotMerged(t, s, c.want, fan, append(slices.Clone(list), c.last)...) })
		}
	}
	expectMerged(t, s, 3001+48, api.MaxFan, list...)
	expectLive(t, s, open, 3001+48)
}

func TestRunsWithoutBytes(t *testing.T) { // P10.1
	s := runs.New(100)
	layEach(t, s, nil, nil)
	expectSteps(t, s, 2, func() { expectMerged(t, s, 3, 2, 1, 2) })
	expectBytes(t, s, 3, "")
	layEach(t, s, nil, []string{"a"}, nil)
	expectMerged(t, s, 7, 4, 3, 4, 5, 6)
	expectRun(t, s, 7, "a")
	// Nothing at all, and the empty word, which is one.
	layEach(t, s, []string{""}, nil)
	expectMerged(t, s, 10, 2, 9, 8)
	expectRun(t, s, 10, "")
	expectMerged(t, s, 11, 2, 10, 7)
	expectRun(t, s, 11, "", "a")
	expectLive(t, s, 11)
}

func TestRunsWithTheSameTexts(t *testing.T) { // P10.1: each text once
	for _, fan := range []int{2, 3, 5, api.MaxFan} {
		s := runs.New(1000)
		list := layEach(t, s, []string{"a", "b"}, []string{"a", "b"}, []string{"b", "c"}, []string{"", "a"}, []string{"a"}, []string{""}, []string{"c"})
		run := s.Made() + (len(list)-1+fan-2)/(fan-1)
		expectMerged(t, s, run, fan, list...)
		expectLive(t, s, run)
		expectRun(t, s, run, "", "a", "b", "c")
	}
	s := runs.New(1000000)
	words := numbered(1000)
	list := layEach(t, s, words, words, words, words[500:], words[:500])
	expectMerged(t, s, 9, 2, list...)
	expectRun(t, s, 9, words...)
}

func TestRunsThatAreTornOrDoNotRise(t *testing.T) { // what stands in a run
	for _, c := range []struct {
		text string
		want []string
	}{
		{"\x01c\x01b\x01d", []string{"c"}},
		{"\x01a\x01d\x01c\x01e", []string{"a", "d"}},
		{"\x01c\x01c\x01d", []string{"c"}},
		{"\x00\x00\x01d", []string{""}},
		{"\x01a\x00", []string{"a"}},
		{"\x01\x80\x01\x7f", []string{"\x80"}},
		{"\x01c\x02d", []string{"c"}},
		{"\x01c\x80", []string{"c"}},
		{"\x01c\x80\x00\x01d", []string{"c"}},
		{"\x01c\x80\x02" + long(256) + "\x01y", []string{"c"}},
		{"\x01c\xff\x01" + long(254), []string{"c"}},
		{"\x01c\xff\x01" + long(255) + "\x01y", []string{"c", long(255), "y"}},
		{"\x02", nil},
		{strings.Repeat("\xff", 600), nil},
	} {
		for _, turned := range []bool{false, true} {
			s := runs.New(10000)
			list := []int{lay(t, s, c.text), lay(t, s, "\x01b\x01m")}
			if turned {
				slices.Reverse(list)
			}
			expectMerged(t, s, 3, 2, list...)
			expectLive(t, s, 3)
			expectRun(t, s, 3, rising(append([]string{"b", "m"}, c.want...))...)
			// Twice the same bytes in two runs.
			lay(t, s, c.text)
			lay(t, s, c.text)
			expectMerged(t, s, 6, 2, 4, 5)
			expectRun(t, s, 6, c.want...)
			// What streams.Records gives is just that.
			all, err := streams.Records(s, 6)
			if got := all.List(99); err != nil || !slices.Equal(got, c.want) {
				t.Errorf("Records gives %.90q, %v; want %.90q", got, err, c.want)
			}
			if t.Failed() {
				t.Fatalf("of %.60q", c.text)
			}
		}
	}
}

func TestWordsAreMergedByTheirBytes(t *testing.T) { // P10.1
	all := []string{"", "\x00", "\x00\x00", "A", "Z", "a", "a\x00", "a\x00b", "aa", "aaa", "ab", "b",
		"\x7f", "\x7f\xff", "\x80", "\xc3\xa4", "\xe4", "\xff", "\xff\x00", "\xff\xff"}
	for seed := range 60 {
		next := randoms(seed)
		lists := make([][]string, 2+next(5))
		for _, w := range all {
			k := next(len(lists))
			lists[k] = append(lists[k], w)
		}
		s := runs.New(1000)
		list := layEach(t, s, lists...)
		expectMerged(t, s, 2*len(list)-1, 2, list...)
		expectRun(t, s, 2*len(list)-1, all...)
	}
}

func TestWordsOfEachLength(t *testing.T) { // P10.1
	var all []string
	for n := range api.MaxRecord + 1 {
		all = append(all, long(n))
	}
	var odd, even []string
	for n, w := range all {
		if n%2 == 0 {
			even = append(even, w)
		} else {
			odd = append(odd, w)
		}
	}
	s := runs.New(100000)
	layEach(t, s, odd, even)
	expectMerged(t, s, 3, 2, 1, 2)
	expectRun(t, s, 3, all...)
}
