package runs_test

import (
	"testing"

	"hornbook/api"
	"hornbook/runs"
)

// Here all short lists of calls, and a few long ones, are held against a plain
// second writing of the chapter's words.

// model keeps every run that was ever made, and counts its steps from the beginning.
type model struct {
	capacity, peak  int
	all             []modelRun
	steps, refusing int
}

type modelRun struct {
	text         string
	sealed, gone bool
}

func (m *model) isRefused() bool {
	m.steps++
	return m.steps == m.refusing
}

func (m *model) has(run int) bool {
	return run > 0 && run <= len(m.all) && !m.all[run-1].gone
}

func (m *model) used() int {
	sum := 0
	for _, r := range m.all {
		if !r.gone {
			sum += len(r.text)
		}
	}
	return sum
}

func (m *model) live() []int {
	var numbers []int
	for i, r := range m.all {
		if !r.gone {
			numbers = append(numbers, i+1)
		}
	}
	return numbers
}

func (m *model) create() (int, error) {
	if m.isRefused() {
		return 0, api.FailBroken
	}
	m.all = append(m.all, modelRun{})
	return len(m.all), nil
}

func (m *model) append(run int, parts ...string) error {
	sum, text := 0, ""
	for _, part := range parts {
		sum += len(part)
		text += part
	}
	switch {
	case m.isRefused():
		return api.FailBroken
	case !m.has(run):
		return api.FailNoRun
	case m.all[run-1].sealed:
		return api.FailSealed
	case m.used()+sum > m.capacity:
		return api.FailFull
	}
	m.all[run-1].text += text
	m.peak = max(m.peak, m.used())
	return nil
}

func (m *model) seal(run int) error {
	switch {
	case m.isRefused():
		return api.FailBroken
	case !m.has(run):
		return api.FailNoRun
	case m.all[run-1].sealed:
		return api.FailSealed
	}
	m.all[run-1].sealed = true
	return nil
}

func (m *model) remove(run int) error {
	if !m.has(run) {
		return api.FailNoRun
	}
	m.all[run-1].gone = true
	return nil
}

func (m *model) breakAt(n int) {
	m.refusing = 0
	if n >= 1 {
		m.refusing = m.steps + n
	}
}

// checkCall does the same with both, and holds the answers against each other.
func checkCall(t *testing.T, s *runs.Store, m *model, what, run, n int) {
	t.Helper()
	var got, want error
	switch what {
	case 0:
		a, err := s.Create()
		b, wanted := m.create()
		if got, want = err, wanted; a != b {
			t.Fatalf("Create() = %d; want %d", a, b)
		}
	case 1:
		parts := []string{"", "xyz"[:n], "uvw"[n:]}[:n]
		got, want = s.Append(run, parts...), m.append(run, parts...)
	case 2:
		got, want = s.Seal(run), m.seal(run)
	case 3:
		got, want = s.Remove(run), m.remove(run)
	case 4:
		s.Break(n)
		m.breakAt(n)
	}
	if got != want {
		t.Fatalf("call %d of run %d with %d: %v; want %v", what, run, n, got, want)
	}
}

// checkAll asks both for all that can be asked without a step.
func checkAll(t *testing.T, s *runs.Store, m *model) {
	t.Helper()
	expectTold(t, s, counts{used: m.used(), peak: m.peak, made: len(m.all), live: m.live()})
	for run := -1; run <= len(m.all)+1; run++ {
		if !m.has(run) {
			if n, err := s.Size(run); n != 0 || err != api.FailNoRun {
				t.Errorf("Size(%d) = %d, %v", run, n, err)
			}
			expectNotRead(t, s, run, 0, 0, api.FailNoRun)
			continue
		}
		held := m.all[run-1]
		if held.sealed {
			expectRead(t, s, run, held.text)
		} else {
			expectSize(t, s, run, len(held.text))
			expectNotRead(t, s, run, 0, len(held.text), api.FailOpen)
		}
	}
}

func TestShortListsOfCallsAgainstTheModel(t *testing.T) { // P5.1 to P5.9
	calls := [][3]int{
		{0, 0, 0}, {1, 1, 0}, {1, 1, 2}, {1, 1, 3}, {1, 2, 2}, {1, 2, 3},
		{2, 1, 0}, {2, 2, 0}, {3, 1, 0}, {3, 2, 0}, {4, 0, 0}, {4, 0, 1}, {4, 0, 2},
	}
	const length = 5
	count := 1
	for range length {
		count *= len(calls)
	}
	for number := range count {
		s, m := runs.New(4), &model{capacity: 4}
		// Without a first run most calls say only that there is none.
		checkCall(t, s, m, 0, 0, 0)
		for left, i := number, 0; i < length; i++ {
			c := calls[left%len(calls)]
			checkCall(t, s, m, c[0], c[1], c[2])
			left /= len(calls)
		}
		checkAll(t, s, m)
		if t.Failed() {
			t.Fatalf("list %d", number)
		}
	}
}

func TestLongListsOfCallsAgainstTheModel(t *testing.T) { // P5.1 to P5.9
	for seed := range 30 {
		capacity := seed * 3
		s, m := runs.New(capacity), &model{capacity: capacity}
		state := uint64(seed) + 1
		next := func(below int) int {
			state = state*6364136223846793005 + 1442695040888963407
			return int(state >> 33 % uint64(below))
		}
		for range 600 {
			// Appends come most often; a run is of the last few, or one that never was.
			what := []int{0, 1, 1, 1, 1, 1, 2, 3, 4}[next(9)]
			run := len(m.all) + 1 - next(8)
			checkCall(t, s, m, what, run, next(4))
			checkAll(t, s, m)
		}
		if t.Failed() {
			t.Fatalf("list %d", seed)
		}
	}
}
