package merge_test

import (
	"fmt"
	"math"
	"slices"
	"strings"
	"sync"
	"testing"

	"hornbook/api"
	"hornbook/merge"
	"hornbook/runs"
)

// What the document says of all layers, held at this one.

func TestNoCallPanics(t *testing.T) { // P1, rules 5 and 6
	ints := []int{math.MinInt, -1, 0, 1, 2, 3, 64, 65, api.MaxBuffer, api.MaxBuffer + 1, 1 << 32, math.MaxInt}
	texts := []string{"", "a", "\x00", "\xff", "\xc3", long(255), long(256), strings.Repeat("ab", 9999)}
	for _, capacity := range ints {
		for _, fan := range ints {
			for refused := range 9 {
				s := runs.New(capacity)
				s.Break(refused)
				for _, buffer := range ints {
					merge.Sort(s, buffer, fan)
					merge.Sort(s, buffer, fan, texts[:6]...)
					merge.Sort(s, buffer, fan, texts...)
				}
				merge.Merge(s, fan)
				merge.Merge(s, fan, ints...)
				merge.Merge(s, fan, s.Live()...)
				merge.Merge(s, fan, append(s.Live(), s.Live()...)...)
			}
		}
	}
}

func TestOfTheZeroStore(t *testing.T) { // P1
	s := new(runs.Store)
	expectNotMerged(t, s, api.FailNoRun, 2, 1)
	expectNotSorted(t, s, api.FailFull, 1, 2, "a")
	expectLive(t, s)
	expectMerged(t, s, 2, 2)
	expectSorted(t, s, 3, 1, 2)
	expectMerged(t, s, 4, 2, 3, 2)
	expectLive(t, s, 4)
}

func TestAListOfRunsThatIsHandedInStays(t *testing.T) { // rule 4
	for _, fan := range []int{2, 3, 4, 64} {
		for n := range 7 {
			for refused := range 9 {
				s := runs.New(1000)
				laySingles(t, s, "a", "b", "c", "d", "e", "f")
				// Behind the list's length lies what no call may read or write.
				list := []int{3, 1, 2, 6, 4, 5, -7, -7, -7, -7, -7, -7}
				as := slices.Clone(list)
				s.Break(refused)
				_, err := merge.Merge(s, fan, list[:n]...)
				if !slices.Equal(list, as) {
					t.Fatalf("fan %d, %d runs: the list became %v", fan, n, list)
				}
				if err != nil && err != api.FailBroken {
					t.Errorf("fan %d, %d runs: %v", fan, n, err)
				}
			}
		}
	}
	// Nor by a call that is refused at once.
	s := runs.New(100)
	laySingles(t, s, "a", "b")
	for _, list := range [][]int{{2, 1, 2, 9}, {2, 9, 1, 9}} {
		as := slices.Clone(list)
		merge.Merge(s, 2, list[:3]...)
		merge.Merge(s, 1, list...)
		if !slices.Equal(list, as) {
			t.Errorf("the list became %v", list)
		}
	}
}

func TestAListOfWordsThatIsHandedInStays(t *testing.T) { // rule 4
	for _, buffer := range []int{1, 2, 3, 4, 9} {
		for refused := range 9 {
			list := []string{"c", "a", "c", "b", "behind", "behind"}
			as := slices.Clone(list)
			s := runs.New(1000)
			s.Break(refused)
			run, err := merge.Sort(s, buffer, 2, list[:4]...)
			if !slices.Equal(list, as) {
				t.Errorf("buffer %d: the list became %q", buffer, list)
			}
			if err == nil {
				expectRun(t, s, run, "a", "b", "c")
			}
		}
	}
	list := []string{"b", long(256), "a", "behind"}
	as := slices.Clone(list)
	expectNotSorted(t, runs.New(100), api.FailRecord, 1, 2, list[:3]...)
	if !slices.Equal(list, as) {
		t.Errorf("the list became %.30q", list)
	}
}

func TestListsThatAreHandedInAreNotKept(t *testing.T) { // rule 4
	s := runs.New(1000)
	words := []string{"b", "a", "c"}
	expectSorted(t, s, 5, 1, 2, words...)
	for i := range words {
		words[i] = "x"
	}
	expectRun(t, s, 5, "a", "b", "c")
	list := append(laySingles(t, s, "d", "e"), 5)
	expectMerged(t, s, 9, 2, list...)
	clear(list)
	other := lay(t, s, "\x01f")
	expectMerged(t, s, 11, 2, 9, other)
	expectRun(t, s, 11, "a", "b", "c", "d", "e", "f")
	expectLive(t, s, 11)
}

func TestTwoStores(t *testing.T) { // P2
	s, other := runs.New(100), runs.New(100)
	laySingles(t, s, "a", "b")
	laySingles(t, other, "c", "d")
	expectMerged(t, s, 3, 2, 1, 2)
	expectLive(t, other, 1, 2)
	s.Break(1)
	expectMerged(t, other, 3, 2, 2, 1)
	expectRun(t, s, 3, "a", "b")
	expectRun(t, other, 3, "c", "d")
	expectNotSorted(t, s, api.FailBroken, 2, 2, "x")
	expectLive(t, s, 3)
	expectLive(t, other, 3)
}

func TestNothingIsKeptBetweenCalls(t *testing.T) { // rule 8
	for range 3 {
		s := runs.New(100)
		expectNotSorted(t, s, api.FailRecord, 1, 2, "z", long(256))
		s.Break(4)
		expectNotSorted(t, s, api.FailBroken, 1, 2, "y", "x")
		expectSorted(t, s, 4, 1, 2, "b", "a")
		expectRun(t, s, 4, "a", "b")
		s.Break(2)
		expectNotMerged(t, s, api.FailBroken, 2)
		expectMerged(t, s, 6, 2)
		expectMerged(t, s, 7, 2, 6, 4)
		expectRun(t, s, 7, "a", "b")
	}
}

func TestStoresAtTheSameTime(t *testing.T) { // P2
	var wait sync.WaitGroup
	got := make([]string, 16)
	for i := range got {
		wait.Go(func() {
			s := runs.New(100000)
			var words []string
			for n := range 60 {
				words = append(words, fmt.Sprintf("%02d", 99-n), "00")
			}
			run, err := merge.Sort(s, i+1, i+2, words...)
			size, _ := s.Size(run)
			got[i] = fmt.Sprint(run, size, s.Live(), err)
		})
	}
	wait.Wait()
	for i, text := range got {
		run := lastOf(120, i+1, i+2)
		if want := fmt.Sprint(run, 61*3, []int{run}, nil); text != want {
			t.Errorf("store %d: %s; want %s", i, text, want)
		}
	}
}
