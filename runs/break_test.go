package runs_test

import (
	"math"
	"testing"

	"hornbook/api"
	"hornbook/runs"
)

// withRuns: a store of capacity 5 with an open run 1 ("ab"), a sealed run 2 ("cd"), and a run 3 that is gone.
func withRuns(t *testing.T) *runs.Store {
	t.Helper()
	s := runs.New(5)
	for number := 1; number <= 3; number++ {
		create(t, s, number)
	}
	expectError(t, s.Append(1, "ab"), nil)
	expectError(t, s.Append(2, "c", "d"), nil)
	expectError(t, s.Seal(2), nil)
	expectError(t, s.Remove(3), nil)
	return s
}

// expectAsMade: the store is as withRuns made it, but for steps.
func expectAsMade(t *testing.T, s *runs.Store) {
	t.Helper()
	expectTold(t, s, counts{used: 4, peak: 4, made: 3, live: []int{1, 2}})
	expectSize(t, s, 1, 2)
	expectNotRead(t, s, 1, 0, 0, api.FailOpen)
	expectRead(t, s, 2, "cd")
	expectNotRead(t, s, 3, 0, 0, api.FailNoRun)
}

// steps: a call of each kind of step, fit and at fault, with what it answers a store of withRuns.
func steps() []struct {
	name string
	call func(s *runs.Store) error
	err  error
} {
	return []struct {
		name string
		call func(s *runs.Store) error
		err  error
	}{
		{"Create", func(s *runs.Store) error { _, err := s.Create(); return err }, nil},
		{"Append", func(s *runs.Store) error { return s.Append(1, "e") }, nil},
		{"Append of nothing", func(s *runs.Store) error { return s.Append(1) }, nil},
		{"Append of too much", func(s *runs.Store) error { return s.Append(1, "ef") }, api.FailFull},
		{"Append to a sealed run", func(s *runs.Store) error { return s.Append(2, "e") }, api.FailSealed},
		{"Append to a run that is gone", func(s *runs.Store) error { return s.Append(3, "e") }, api.FailNoRun},
		{"Append to no run", func(s *runs.Store) error { return s.Append(0) }, api.FailNoRun},
		{"Seal", func(s *runs.Store) error { return s.Seal(1) }, nil},
		{"Seal of a sealed run", func(s *runs.Store) error { return s.Seal(2) }, api.FailSealed},
		{"Seal of a run that is gone", func(s *runs.Store) error { return s.Seal(3) }, api.FailNoRun},
		{"Seal of no run", func(s *runs.Store) error { return s.Seal(-1) }, api.FailNoRun},
	}
}

func TestBreakRefusesTheNextStep(t *testing.T) { // P5.3
	for _, c := range steps() {
		s := withRuns(t)
		s.Break(1)
		if err := c.call(s); err != api.FailBroken {
			t.Errorf("%s: %v", c.name, err)
		}
		expectAsMade(t, s)
		// The step behind it is as ever.
		if err := c.call(s); err != c.err {
			t.Errorf("%s, the second time: %v", c.name, err)
		}
	}
}

func TestCreateThatIsRefusedTakesNoNumber(t *testing.T) { // P5.3, P5.4
	s := withRuns(t)
	s.Break(1)
	if n, err := s.Create(); n != 0 || err != api.FailBroken {
		t.Errorf("Create() = %d, %v", n, err)
	}
	expectAsMade(t, s)
	create(t, s, 4)
}

func TestEachStepCounts(t *testing.T) { // P5.3
	for _, first := range steps() {
		for _, second := range steps() {
			s := withRuns(t)
			s.Break(2)
			if err := first.call(s); err != first.err {
				t.Errorf("%s: %v", first.name, err)
			}
			if err := second.call(s); err != api.FailBroken {
				t.Errorf("%s behind %s: %v", second.name, first.name, err)
			}
			create(t, s, s.Made()+1)
		}
	}
}

func TestBreakOfALaterStep(t *testing.T) { // P5.3
	for n := 1; n <= 40; n++ {
		s := runs.New(1000)
		create(t, s, 1)
		s.Break(n)
		for i := 1; i <= 60; i++ {
			want := error(nil)
			if i == n {
				want = api.FailBroken
			}
			expectError(t, s.Append(1, "a"), want)
		}
		expectSize(t, s, 1, 59)
	}
}

func TestBreakOfNoStep(t *testing.T) { // P5.3
	for _, n := range []int{0, -1, -2, math.MinInt, math.MaxInt, 1 << 32, 1000} {
		s := runs.New(1000)
		create(t, s, 1)
		s.Break(n)
		for range 500 {
			expectError(t, s.Append(1, "a"), nil)
		}
		expectSize(t, s, 1, 500)
	}
}

func TestALaterBreakTakesThePlace(t *testing.T) { // P5.3
	for _, c := range []struct{ first, ahead, second, refused int }{
		{1, 0, 2, 2},
		{2, 0, 1, 1},
		{3, 2, 3, 5},
		{3, 2, 1, 3},
		{5, 2, 2, 4},
		{1, 0, 1, 1},
		{1, 0, 0, 0},
		{3, 2, 0, 0},
		{3, 2, -1, 0},
		{2, 1, math.MinInt, 0},
		{1, 0, math.MaxInt, 0},
		{0, 0, 1, 1},
		{-1, 3, 1, 4},
		{math.MinInt, 0, 2, 2},
		{math.MaxInt, 1, 1, 2},
		{1, 1, 1, 2}, // the first one has refused its step already
		{1, 1, 0, 0},
	} {
		s := runs.New(1000)
		create(t, s, 1)
		s.Break(c.first)
		for i := 1; i <= 20; i++ {
			if i == c.ahead+1 {
				s.Break(c.second)
			}
			want := error(nil)
			if i == c.refused || i == c.first && i <= c.ahead {
				want = api.FailBroken
			}
			if err := s.Append(1, "a"); err != want {
				t.Errorf("%v: step %d: %v; want %v", c, i, err, want)
			}
		}
	}
}

func TestOtherCallsAreNoSteps(t *testing.T) { // P5.3
	for _, n := range []int{1, 2} {
		s := withRuns(t)
		create(t, s, 4)
		s.Break(n)
		for range 5 {
			expectRead(t, s, 2, "cd")
			expectNotRead(t, s, 1, 0, 1, api.FailOpen)
			expectNotRead(t, s, 3, 0, 1, api.FailNoRun)
			expectSize(t, s, 1, 2)
			expectError(t, s.Remove(3), api.FailNoRun)
			expectTold(t, s, counts{used: 4, peak: 4, made: 4, live: []int{1, 2, 4}})
		}
		// A Remove that is taken is none either.
		expectError(t, s.Remove(4), nil)
		if n == 2 {
			create(t, s, 5)
		}
		expectError(t, s.Append(1, "e"), api.FailBroken)
		expectError(t, s.Append(1, "e"), nil)
	}
}

func TestBreakIsOfOneStoreAlone(t *testing.T) { // P5.1, P5.3
	a, b := runs.New(10), runs.New(10)
	a.Break(1)
	create(t, b, 1)
	create(t, b, 2)
	if n, err := a.Create(); n != 0 || err != api.FailBroken {
		t.Errorf("Create() = %d, %v", n, err)
	}
	create(t, a, 1)
}
