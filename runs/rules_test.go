package runs_test

import (
	"math"
	"slices"
	"strings"
	"sync"
	"testing"

	"hornbook/api"
	"hornbook/runs"
)

// What the document says of all layers, held at this one.

func TestOfANilStore(t *testing.T) { // P5.2, P1
	var s *runs.Store
	for _, n := range []int{math.MinInt, -1, 0, 1, 2, math.MaxInt} {
		s.Break(n)
		if run, err := s.Create(); run != 0 || err != api.FailNil {
			t.Errorf("Create() = %d, %v", run, err)
		}
		expectError(t, s.Append(n), api.FailNil)
		expectError(t, s.Append(n, "a", "b"), api.FailNil)
		expectError(t, s.Seal(n), api.FailNil)
		expectError(t, s.Remove(n), api.FailNil)
		expectNotRead(t, s, n, 0, 0, api.FailNil)
		expectNotRead(t, s, 1, n, n, api.FailNil)
		if size, err := s.Size(n); size != 0 || err != api.FailNil {
			t.Errorf("Size(%d) = %d, %v", n, size, err)
		}
		expectTold(t, s, counts{})
	}
}

func TestTheZeroStoreIsOneOfCapacityNought(t *testing.T) { // P1
	for _, s := range []*runs.Store{{}, new(runs.Store), runs.New(0)} {
		expectTold(t, s, counts{})
		for _, run := range []int{-1, 0, 1} {
			expectNoRun(t, s, run)
		}
		s.Break(1)
		if n, err := s.Create(); n != 0 || err != api.FailBroken {
			t.Errorf("Create() = %d, %v", n, err)
		}
		create(t, s, 1)
		expectError(t, s.Append(1, "a"), api.FailFull)
		expectError(t, s.Append(1, ""), nil)
		expectError(t, s.Seal(1), nil)
		expectRead(t, s, 1, "")
		expectError(t, s.Remove(1), nil)
		create(t, s, 2)
		expectTold(t, s, counts{made: 2, live: []int{2}})
	}
}

func TestNoCallPanics(t *testing.T) { // P1, rules 5 and 6
	numbers := []int{math.MinInt, -1, 0, 1, 2, 3, 4, 5, 1 << 32, math.MaxInt}
	texts := []string{"", "a", "\x00", "\xff", everyByte(), strings.Repeat("ab", 99999)}
	for _, capacity := range numbers {
		s := runs.New(capacity)
		for range 3 {
			s.Create()
		}
		s.Seal(2)
		s.Remove(3)
		for _, run := range numbers {
			for _, text := range texts {
				s.Append(run, text, text)
			}
			s.Append(run, texts...)
			s.Size(run)
			for _, at := range numbers {
				for _, n := range numbers {
					s.Read(run, at, n)
				}
			}
			s.Break(run)
			s.Create()
		}
		for _, run := range numbers {
			s.Seal(run)
			s.Remove(run)
			s.Remove(run)
		}
	}
}

func TestStoresSideBySide(t *testing.T) { // P5.1, P2
	a, b := runs.New(3), runs.New(3)
	create(t, a, 1)
	create(t, a, 2)
	create(t, b, 1)
	expectError(t, a.Append(1, "abc"), nil)
	expectTold(t, b, counts{made: 1, live: []int{1}})
	expectError(t, a.Append(2, "d"), api.FailFull)
	expectError(t, b.Append(1, "xy"), nil)
	expectError(t, b.Append(2, "z"), api.FailNoRun)
	expectError(t, a.Seal(1), nil)
	expectNotRead(t, b, 1, 0, 2, api.FailOpen)
	expectError(t, b.Append(1, "z"), nil)
	expectError(t, b.Seal(1), nil)
	expectRead(t, a, 1, "abc")
	expectRead(t, b, 1, "xyz")
	expectError(t, a.Remove(1), nil)
	expectRead(t, b, 1, "xyz")
	expectTold(t, a, counts{peak: 3, made: 2, live: []int{2}})
	expectTold(t, b, counts{used: 3, peak: 3, made: 1, live: []int{1}})
	create(t, b, 2)
	create(t, a, 3)
	expectTold(t, runs.New(3), counts{})
}

func TestWhatWasRefusedHasChangedNothing(t *testing.T) { // rule 3, section 'Words of this layer'
	for _, c := range steps() {
		for _, broken := range []bool{false, true} {
			s := withRuns(t)
			if !broken && c.err == nil {
				continue
			}
			if broken {
				s.Break(1)
			}
			if err := c.call(s); err == nil {
				t.Errorf("%s is not refused", c.name)
			}
			expectAsMade(t, s)
			// Nor has what no call tells: the room that is left, and which run is open.
			expectError(t, s.Append(1, "ef"), api.FailFull)
			expectError(t, s.Append(1, "e"), nil)
			expectError(t, s.Seal(1), nil)
			expectRead(t, s, 1, "abe")
			create(t, s, 4)
		}
	}
}

func TestRefusedReadsAndRemovesChangeNothing(t *testing.T) { // rule 3
	s := withRuns(t)
	expectNotRead(t, s, 1, 0, 2, api.FailOpen)
	expectNotRead(t, s, 2, 0, 3, api.FailRange)
	expectNotRead(t, s, 2, -1, 1, api.FailRange)
	expectNotRead(t, s, 3, 0, 0, api.FailNoRun)
	for _, run := range []int{math.MinInt, -1, 0, 3, 4, math.MaxInt} {
		expectError(t, s.Remove(run), api.FailNoRun)
	}
	expectAsMade(t, s)
}

func TestAppendTakesAllPartsOrNone(t *testing.T) { // P5.5, rule 3
	s := runs.New(4)
	create(t, s, 1)
	expectError(t, s.Append(1, "ab"), nil)
	for _, parts := range [][]string{{"c", "de"}, {"c", "d", "e"}, {"cde"}, {"cd", "", "", "e"}, {"", "c", "de", ""}} {
		expectError(t, s.Append(1, parts...), api.FailFull)
		expectSize(t, s, 1, 2)
	}
	expectError(t, s.Append(1, "x", "y"), nil)
	expectError(t, s.Seal(1), nil)
	expectRead(t, s, 1, "abxy")
}

func TestAppendLeavesItsParts(t *testing.T) { // rule 4
	s := runs.New(100)
	create(t, s, 1)
	// Behind the list's length lies what no call may read or write.
	list := []string{"ab", "", "c", "behind", "behind"}
	expectError(t, s.Append(1, list[:3]...), nil)
	if !slices.Equal(list, []string{"ab", "", "c", "behind", "behind"}) {
		t.Errorf("Append made %q of its list", list)
	}
	clear(list)
	expectError(t, s.Append(1, "d"), nil)
	expectError(t, s.Seal(1), nil)
	expectRead(t, s, 1, "abcd")
}

func TestWhatWasReadStays(t *testing.T) { // rule 4
	s := runs.New(8)
	create(t, s, 1)
	expectError(t, s.Append(1, "abcd"), nil)
	expectError(t, s.Seal(1), nil)
	first, _ := s.Read(1, 0, 4)
	second, _ := s.Read(1, 1, 2)
	expectError(t, s.Remove(1), nil)
	create(t, s, 2)
	expectError(t, s.Append(2, "12345678"), nil)
	if first != "abcd" || second != "bc" {
		t.Errorf("what was read became %q and %q", first, second)
	}
}

func TestNothingIsKeptBetweenStores(t *testing.T) { // rule 8
	ask := func() string {
		s := runs.New(4)
		n, err := s.Create()
		if n != 1 || err != nil || s.Append(1, "ab", "cd") != nil || s.Seal(1) != nil {
			t.Fatalf("the store is not as new: %d, %v", n, err)
		}
		text, _ := s.Read(1, 0, 4)
		return text
	}
	for range 3 {
		if got := ask(); got != "abcd" {
			t.Errorf("%q", got)
		}
		s := runs.New(1)
		s.Break(1)
		s.Create()
		s.Create()
		s.Append(1, "too much")
	}
}

func TestStoresAtTheSameTime(t *testing.T) { // P2
	var wait sync.WaitGroup
	got := make([]string, 16)
	for i := range got {
		wait.Go(func() {
			s := runs.New(100)
			for range i {
				n, _ := s.Create()
				s.Remove(n)
			}
			n, _ := s.Create()
			for range 5 {
				s.Append(n, string(rune('a'+i)))
			}
			s.Seal(n)
			got[i], _ = s.Read(n, 0, 5)
		})
	}
	wait.Wait()
	for i, text := range got {
		if text != strings.Repeat(string(rune('a'+i)), 5) {
			t.Errorf("store %d: %q", i, text)
		}
	}
}
