package runs_test

import (
	"math"
	"slices"
	"strings"
	"testing"

	"hornbook/api"
	"hornbook/runs"
)

func TestNewHasNoRuns(t *testing.T) { // P5.1
	for _, capacity := range []int{math.MinInt, -1, 0, 1, 5, api.MaxStore, api.MaxStore + 1, math.MaxInt} {
		s := runs.New(capacity)
		if s == nil {
			t.Fatalf("New(%d) = nil", capacity)
		}
		expectTold(t, s, counts{})
		for _, run := range []int{math.MinInt, -1, 0, 1, 2, math.MaxInt} {
			expectNoRun(t, s, run)
		}
	}
}

func TestSmallCapacities(t *testing.T) { // P5.1
	for _, c := range []struct{ capacity, holds int }{{math.MinInt, 0}, {-api.MaxStore, 0}, {-1, 0}, {0, 0}, {1, 1}, {2, 2}, {5, 5}, {100, 100}} {
		s := runs.New(c.capacity)
		create(t, s, 1)
		expectError(t, s.Append(1, strings.Repeat("a", c.holds+1)), api.FailFull)
		expectError(t, s.Append(1, strings.Repeat("a", c.holds)), nil)
		expectError(t, s.Append(1, "a"), api.FailFull)
		expectError(t, s.Append(1, ""), nil)
		expectTold(t, s, counts{used: c.holds, peak: c.holds, made: 1, live: []int{1}})
	}
}

func TestTheGreatestCapacities(t *testing.T) { // P5.1
	part := strings.Repeat("a", api.MaxStore/16)
	most := slices.Repeat([]string{part}, 16)
	for _, capacity := range []int{api.MaxStore - 1, api.MaxStore, api.MaxStore + 1, 2 * api.MaxStore, math.MaxInt} {
		s := runs.New(capacity)
		create(t, s, 1)
		create(t, s, 2)
		expectError(t, s.Append(1, append([]string{"b"}, most...)...), api.FailFull)
		if capacity < api.MaxStore {
			expectError(t, s.Append(1, most...), api.FailFull)
			expectTold(t, s, counts{made: 2, live: []int{1, 2}})
			continue
		}
		expectError(t, s.Append(1, most...), nil)
		expectError(t, s.Append(1, "b"), api.FailFull)
		expectError(t, s.Append(2, "b"), api.FailFull)
		expectError(t, s.Append(2, "", ""), nil)
		expectTold(t, s, counts{used: api.MaxStore, peak: api.MaxStore, made: 2, live: []int{1, 2}})
	}
}

func TestCreateNumbersTheRuns(t *testing.T) { // P5.4
	s := runs.New(10)
	for number := 1; number <= 300; number++ {
		create(t, s, number)
		expectSize(t, s, number, 0)
		if _, err := s.Read(number, 0, 0); err != api.FailOpen {
			t.Fatalf("a new run %d is not open: %v", number, err)
		}
		expectNoRun(t, s, number+1)
	}
}

func TestNumbersAreNeverUsedAgain(t *testing.T) { // P5.4, P5.8
	s := runs.New(10)
	create(t, s, 1)
	expectError(t, s.Remove(1), nil)
	create(t, s, 2)
	create(t, s, 3)
	expectError(t, s.Seal(3), nil)
	expectError(t, s.Remove(3), nil)
	expectError(t, s.Remove(2), nil)
	expectTold(t, s, counts{made: 3})
	create(t, s, 4)
	for _, gone := range []int{1, 2, 3} {
		expectNoRun(t, s, gone)
	}
	expectTold(t, s, counts{made: 4, live: []int{4}})
}

func TestCreateIsRefusedWhenTheNumbersAreSpent(t *testing.T) { // P5.4, P5.3
	s := runs.New(10)
	s.Break(1)
	// What was refused took no number.
	if n, err := s.Create(); n != 0 || err != api.FailBroken {
		t.Fatalf("Create() = %d, %v", n, err)
	}
	for number := 1; number <= api.MaxRuns; number++ {
		if n, err := s.Create(); n != number || err != nil {
			t.Fatalf("Create() = %d, %v; want %d", n, err, number)
		}
		if number > 1 && number < api.MaxRuns {
			s.Remove(number)
		}
	}
	want := counts{made: api.MaxRuns, live: []int{1, api.MaxRuns}}
	expectTold(t, s, want)
	for range 3 {
		if n, err := s.Create(); n != 0 || err != api.FailSpent {
			t.Errorf("Create() = %d, %v", n, err)
		}
		expectTold(t, s, want)
	}
	s.Break(1)
	if n, err := s.Create(); n != 0 || err != api.FailBroken {
		t.Errorf("Create() = %d, %v", n, err)
	}
	// Room for runs is not what is spent: what is gone leaves no number behind.
	expectError(t, s.Remove(1), nil)
	if n, err := s.Create(); n != 0 || err != api.FailSpent {
		t.Errorf("Create() = %d, %v", n, err)
	}
	expectError(t, s.Append(api.MaxRuns, "ab"), nil)
	expectError(t, s.Seal(api.MaxRuns), nil)
	expectRead(t, s, api.MaxRuns, "ab")
}

func TestAppendKeepsTheOrder(t *testing.T) { // P5.5
	s := runs.New(1000)
	create(t, s, 1)
	create(t, s, 2)
	expectError(t, s.Append(1, "ab", "c"), nil)
	expectError(t, s.Append(2, "x"), nil)
	expectError(t, s.Append(1), nil)
	expectError(t, s.Append(1, "", "d", "", "ef", ""), nil)
	expectError(t, s.Append(2, "\x00\xff", "\n", "ä"), nil)
	expectError(t, s.Append(1, "ab", "ab"), nil)
	expectError(t, s.Append(2, everyByte()), nil)
	expectError(t, s.Seal(1), nil)
	expectError(t, s.Seal(2), nil)
	expectRead(t, s, 1, "abcdefabab")
	expectRead(t, s, 2, "x\x00\xff\nä"+everyByte())
}

func TestAppendInManySteps(t *testing.T) { // P5.5
	s := runs.New(5000)
	var want [3]strings.Builder
	for i := range want {
		create(t, s, i+1)
	}
	for i := range 700 {
		part := strings.Repeat(string(rune('a'+i%26)), i%5)
		expectError(t, s.Append(i%3+1, part, "-"), nil)
		want[i%3].WriteString(part + "-")
	}
	for i := range want {
		expectError(t, s.Seal(i+1), nil)
		expectRead(t, s, i+1, want[i].String())
	}
}

func TestAppendWithoutBytes(t *testing.T) { // P5.5
	for _, parts := range [][]string{nil, {}, {""}, {"", ""}, {"", "", ""}} {
		s := runs.New(2)
		expectError(t, s.Append(1, parts...), api.FailNoRun)
		create(t, s, 1)
		expectError(t, s.Append(1, parts...), nil)
		expectSize(t, s, 1, 0)
		expectError(t, s.Append(1, "ab"), nil)
		// Nothing more fits, but nothing does.
		expectError(t, s.Append(1, parts...), nil)
		expectSize(t, s, 1, 2)
		expectError(t, s.Seal(1), nil)
		expectError(t, s.Append(1, parts...), api.FailSealed)
		expectError(t, s.Remove(1), nil)
		expectError(t, s.Append(1, parts...), api.FailNoRun)
		expectTold(t, s, counts{peak: 2, made: 1})
	}
}

func TestAppendUpToTheCapacity(t *testing.T) { // P5.5
	for _, parts := range [][]string{{"abc"}, {"a", "bc"}, {"ab", "", "c"}, {"", "abc", ""}} {
		s := runs.New(5)
		create(t, s, 1)
		create(t, s, 2)
		expectError(t, s.Append(1, "xy"), nil)
		expectError(t, s.Append(2, append([]string{"d"}, parts...)...), api.FailFull)
		expectError(t, s.Append(2, append(slices.Clone(parts), "d")...), api.FailFull)
		expectTold(t, s, counts{used: 2, peak: 2, made: 2, live: []int{1, 2}})
		expectError(t, s.Append(2, parts...), nil)
		expectError(t, s.Append(1, "d"), api.FailFull)
		expectError(t, s.Append(2, "d"), api.FailFull)
		expectTold(t, s, counts{used: 5, peak: 5, made: 2, live: []int{1, 2}})
		expectError(t, s.Seal(2), nil)
		expectRead(t, s, 2, "abc")
	}
}

func TestOrderOfAppendsErrors(t *testing.T) { // P5.5, rule 1
	s := runs.New(2)
	create(t, s, 1)
	expectError(t, s.Seal(1), nil)
	expectError(t, s.Append(1, "abc"), api.FailSealed)
	expectError(t, s.Append(2, "abc"), api.FailNoRun)
	expectError(t, s.Append(0, "abc"), api.FailNoRun)
	create(t, s, 2)
	expectError(t, s.Append(2, "abc"), api.FailFull)
}

func TestSeal(t *testing.T) { // P5.6
	s := runs.New(10)
	expectError(t, s.Seal(1), api.FailNoRun)
	create(t, s, 1)
	create(t, s, 2)
	expectError(t, s.Append(1, "ab"), nil)
	expectError(t, s.Seal(1), nil)
	expectError(t, s.Seal(1), api.FailSealed)
	expectError(t, s.Append(1, "c"), api.FailSealed)
	expectError(t, s.Seal(1), api.FailSealed)
	expectRead(t, s, 1, "ab")
	// The other run is open still.
	expectError(t, s.Append(2, "c"), nil)
	expectError(t, s.Seal(2), nil)
	expectRead(t, s, 2, "c")
	expectError(t, s.Remove(1), nil)
	expectError(t, s.Seal(1), api.FailNoRun)
	expectError(t, s.Seal(3), api.FailNoRun)
	create(t, s, 3)
	expectError(t, s.Seal(3), nil)
	expectRead(t, s, 3, "")
}

func TestReadOfAnOpenRun(t *testing.T) { // P5.7
	s := runs.New(10)
	create(t, s, 1)
	expectError(t, s.Append(1, "abc"), nil)
	// That the run is open is told ahead of the places.
	for _, c := range [][2]int{{0, 3}, {0, 0}, {3, 0}, {4, 0}, {-1, 0}, {0, -1}, {math.MaxInt, math.MaxInt}} {
		expectNotRead(t, s, 1, c[0], c[1], api.FailOpen)
	}
	expectError(t, s.Append(1, "d"), nil)
	expectError(t, s.Seal(1), nil)
	expectRead(t, s, 1, "abcd")
}

func TestReadOfAllPlaces(t *testing.T) { // P5.7
	for _, text := range []string{"", "a", "abc", "\x00\xff\n", everyByte()[:20]} {
		s := runs.New(100)
		create(t, s, 1)
		expectError(t, s.Append(1, text), nil)
		expectError(t, s.Seal(1), nil)
		for at := -2; at <= len(text)+2; at++ {
			for n := -2; n <= len(text)+2; n++ {
				if at < 0 || n < 0 || at+n > len(text) {
					expectNotRead(t, s, 1, at, n, api.FailRange)
				} else if got, err := s.Read(1, at, n); got != text[at:at+n] || err != nil {
					t.Errorf("%q: Read(1, %d, %d) = %q, %v", text, at, n, got, err)
				}
			}
		}
	}
}

func TestReadOfGreatNumbers(t *testing.T) { // P5.7, rule 5
	s := runs.New(10)
	create(t, s, 1)
	expectError(t, s.Append(1, "abc"), nil)
	expectError(t, s.Seal(1), nil)
	great := []int{math.MaxInt, math.MaxInt - 1, math.MaxInt - 3, math.MaxInt/2 + 1, 1 << 32, math.MinInt, math.MinInt + 3}
	for _, at := range append(great, -1, 0, 1, 3, 4) {
		for _, n := range great {
			expectNotRead(t, s, 1, at, n, api.FailRange)
			expectNotRead(t, s, 1, n, at, api.FailRange)
			expectNotRead(t, s, 2, at, n, api.FailNoRun)
		}
	}
	expectRead(t, s, 1, "abc")
}

func TestRunsThatThereAreNot(t *testing.T) { // P5.5 to P5.8
	s := runs.New(10)
	numbers := []int{0, -1, -2, 3, 4, 100, api.MaxRuns, 1 << 32, 1<<32 + 2, math.MaxInt, math.MinInt}
	create(t, s, 1)
	create(t, s, 2)
	expectError(t, s.Append(1, "a"), nil)
	expectError(t, s.Append(2, "bc"), nil)
	for _, run := range numbers {
		expectNoRun(t, s, run)
	}
	expectError(t, s.Remove(1), nil)
	for _, run := range append(numbers, 1) {
		expectNoRun(t, s, run)
	}
	expectTold(t, s, counts{used: 2, peak: 3, made: 2, live: []int{2}})
}

func TestSizeOfOpenAndSealedRuns(t *testing.T) { // P5.8
	s := runs.New(10)
	create(t, s, 1)
	for n, part := range []string{"a", "b", "c"} {
		expectSize(t, s, 1, n)
		expectError(t, s.Append(1, part), nil)
	}
	expectSize(t, s, 1, 3)
	expectError(t, s.Append(1, "12345678"), api.FailFull)
	expectSize(t, s, 1, 3)
	expectError(t, s.Seal(1), nil)
	expectSize(t, s, 1, 3)
	create(t, s, 2)
	expectSize(t, s, 2, 0)
	expectError(t, s.Seal(2), nil)
	expectSize(t, s, 2, 0)
}

func TestRemoveMakesRoom(t *testing.T) { // P5.8
	for _, sealed := range []bool{false, true} {
		s := runs.New(5)
		create(t, s, 1)
		create(t, s, 2)
		expectError(t, s.Append(1, "abc"), nil)
		expectError(t, s.Append(2, "de"), nil)
		expectError(t, s.Append(2, "f"), api.FailFull)
		if sealed {
			expectError(t, s.Seal(1), nil)
		}
		expectError(t, s.Remove(1), nil)
		expectNoRun(t, s, 1)
		expectTold(t, s, counts{used: 2, peak: 5, made: 2, live: []int{2}})
		expectError(t, s.Append(2, "fghi"), api.FailFull)
		expectError(t, s.Append(2, "fgh"), nil)
		expectError(t, s.Seal(2), nil)
		expectRead(t, s, 2, "defgh")
		expectError(t, s.Remove(2), nil)
		expectError(t, s.Remove(2), api.FailNoRun)
		expectTold(t, s, counts{peak: 5, made: 2})
	}
}

func TestLiveIsRising(t *testing.T) { // P5.9
	s := runs.New(10)
	var want []int
	for number := 1; number <= 200; number++ {
		create(t, s, number)
		if number%3 == 0 {
			expectError(t, s.Seal(number), nil)
		}
		if number%7 != 0 {
			want = append(want, number)
		}
	}
	for number := 196; number > 0; number -= 7 {
		expectError(t, s.Remove(number), nil)
	}
	// A map is gone through in another order each time.
	for range 50 {
		expectTold(t, s, counts{made: 200, live: want})
	}
}

func TestLiveIsNewMemory(t *testing.T) { // P5.9, rule 4
	s := runs.New(10)
	for number := 1; number <= 5; number++ {
		create(t, s, number)
	}
	want := counts{made: 5, live: []int{1, 2, 3, 4, 5}}
	first, second := s.Live(), s.Live()
	clear(first)
	clear(first[:cap(first)])
	if !slices.Equal(second, want.live) {
		t.Errorf("two answers of Live share memory: %v", second)
	}
	expectTold(t, s, want)
	_ = append(second[:2], 9, 9, 9, 9, 9)
	expectTold(t, s, want)
	third := s.Live()
	expectError(t, s.Remove(2), nil)
	if !slices.Equal(third, want.live) {
		t.Errorf("Remove changed what Live had answered: %v", third)
	}
}

func TestPeakIsTheMost(t *testing.T) { // P5.9
	s := runs.New(10)
	create(t, s, 1)
	create(t, s, 2)
	expectError(t, s.Append(1, "abcd"), nil)
	expectTold(t, s, counts{used: 4, peak: 4, made: 2, live: []int{1, 2}})
	expectError(t, s.Append(2, "efg"), nil)
	expectTold(t, s, counts{used: 7, peak: 7, made: 2, live: []int{1, 2}})
	// What was refused never was in use.
	expectError(t, s.Append(2, "hijk"), api.FailFull)
	expectError(t, s.Append(3, "h"), api.FailNoRun)
	expectTold(t, s, counts{used: 7, peak: 7, made: 2, live: []int{1, 2}})
	expectError(t, s.Remove(1), nil)
	expectTold(t, s, counts{used: 3, peak: 7, made: 2, live: []int{2}})
	expectError(t, s.Append(2, "hij"), nil)
	expectTold(t, s, counts{used: 6, peak: 7, made: 2, live: []int{2}})
	expectError(t, s.Append(2, "kl"), nil)
	expectTold(t, s, counts{used: 8, peak: 8, made: 2, live: []int{2}})
	expectError(t, s.Remove(2), nil)
	create(t, s, 3)
	expectTold(t, s, counts{peak: 8, made: 3, live: []int{3}})
}

func TestTheChaptersExample(t *testing.T) {
	s := runs.New(5)
	create(t, s, 1)
	expectError(t, s.Append(1, "ab", "c"), nil)
	expectError(t, s.Append(1, "def"), api.FailFull)
	expectSize(t, s, 1, 3)
	expectNotRead(t, s, 1, 0, 3, api.FailOpen)
	expectError(t, s.Seal(1), nil)
	expectRead(t, s, 1, "abc")
	expectNotRead(t, s, 1, 4, 0, api.FailRange)
	expectError(t, s.Remove(1), nil)
	expectTold(t, s, counts{peak: 3, made: 1})
	create(t, s, 2)
	s.Break(2)
	create(t, s, 3)
	expectError(t, s.Append(3, "a"), api.FailBroken)
}
