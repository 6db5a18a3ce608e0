package merge_test

import (
	"fmt"
	"slices"
	"strings"
	"testing"

	"hornbook/api"
	"hornbook/merge"
	"hornbook/record"
	"hornbook/runs"
)

// long: a word of that many bytes.
func long(n int) string { return strings.Repeat("x", n) }

// numbered: so many words of seven bytes, rising; the frame of each has eight.
func numbered(n int) []string {
	list := make([]string, n)
	for i := range list {
		list[i] = fmt.Sprintf("%07d", i)
	}
	return list
}

// rising: the same words in their order, each once.
func rising(words []string) []string {
	return slices.Compact(slices.Sorted(slices.Values(words)))
}

// mixed: the same words in another order.
func mixed(words []string, seed int) []string {
	list := slices.Clone(words)
	next := randoms(seed)
	for i := range list {
		k := next(i + 1)
		list[i], list[k] = list[k], list[i]
	}
	return list
}

// framed: the frames of these words, as they come.
func framed(t *testing.T, words ...string) string {
	t.Helper()
	text, e := record.Frame(words...)
	if e != api.OK {
		t.Fatalf("no frames of %d words: %v", len(words), e)
	}
	return text
}

// lay: a new sealed run with these bytes.
func lay(t *testing.T, s *runs.Store, text string) int {
	t.Helper()
	run := layOpen(t, s, text)
	if err := s.Seal(run); err != nil {
		t.Fatal(err)
	}
	return run
}

// layOpen: a new run with these bytes, which isn't sealed.
func layOpen(t *testing.T, s *runs.Store, text string) int {
	t.Helper()
	run, err := s.Create()
	if err != nil || s.Append(run, text) != nil {
		t.Fatalf("no run of %d bytes: %v", len(text), err)
	}
	return run
}

// layEach: a new sealed run for each list of words; their numbers.
func layEach(t *testing.T, s *runs.Store, lists ...[]string) []int {
	t.Helper()
	var numbers []int
	for _, words := range lists {
		numbers = append(numbers, lay(t, s, framed(t, words...)))
	}
	return numbers
}

// laySingles: a new sealed run for each word; their numbers.
func laySingles(t *testing.T, s *runs.Store, words ...string) []int {
	t.Helper()
	var numbers []int
	for _, word := range words {
		numbers = append(numbers, lay(t, s, framed(t, word)))
	}
	return numbers
}

// few: the first ones, as many as are worth telling.
func few(list []int) []int { return list[:min(len(list), 20)] }

func expectMerged(t *testing.T, s *runs.Store, want, fan int, list ...int) {
	t.Helper()
	if got, err := merge.Merge(s, fan, list...); got != want || err != nil {
		t.Errorf("Merge of %v with fan %d = %d, %v; want %d", few(list), fan, got, err, want)
	}
}

// expectNotMerged: the failures are these very values, not wrapped.
func expectNotMerged(t *testing.T, s *runs.Store, want error, fan int, list ...int) {
	t.Helper()
	if got, err := merge.Merge(s, fan, list...); got != 0 || err != want {
		t.Errorf("Merge of %v with fan %d = %d, %v; want %v", few(list), fan, got, err, want)
	}
}

func expectSorted(t *testing.T, s *runs.Store, want, buffer, fan int, words ...string) {
	t.Helper()
	if got, err := merge.Sort(s, buffer, fan, words...); got != want || err != nil {
		t.Errorf("Sort of %d words with buffer %d and fan %d = %d, %v; want %d", len(words), buffer, fan, got, err, want)
	}
}

func expectNotSorted(t *testing.T, s *runs.Store, want error, buffer, fan int, words ...string) {
	t.Helper()
	if got, err := merge.Sort(s, buffer, fan, words...); got != 0 || err != want {
		t.Errorf("Sort of %d words with buffer %d and fan %d = %d, %v; want %v", len(words), buffer, fan, got, err, want)
	}
}

// expectBytes: the run is sealed and has just these bytes.
func expectBytes(t *testing.T, s *runs.Store, run int, want string) {
	t.Helper()
	size, err := s.Size(run)
	got, readErr := s.Read(run, 0, size)
	if err != nil || readErr != nil || got != want {
		t.Errorf("run %d is %.90q, %v, %v; want %.90q", run, got, err, readErr, want)
	}
}

// expectRun: the run is sealed and holds just these words, in that order.
func expectRun(t *testing.T, s *runs.Store, run int, words ...string) {
	t.Helper()
	expectBytes(t, s, run, framed(t, words...))
}

func expectLive(t *testing.T, s *runs.Store, numbers ...int) {
	t.Helper()
	if got := s.Live(); !slices.Equal(got, numbers) {
		t.Errorf("the store has the runs %v; want %v", few(got), few(numbers))
	}
}

// expectUsed: the runs that there are have so many bytes together, and so many were ever made.
func expectUsed(t *testing.T, s *runs.Store, bytes, made int) {
	t.Helper()
	if s.Used() != bytes || s.Made() != made {
		t.Errorf("%d bytes are used, %d runs were made; want %d and %d", s.Used(), s.Made(), bytes, made)
	}
}

// expectSteps: the call takes just n steps of the store. The step behind them
// is taken here, and is the one that the store was told to refuse.
func expectSteps(t *testing.T, s *runs.Store, n int, call func()) {
	t.Helper()
	s.Break(n + 1)
	call()
	if err := s.Seal(0); err != api.FailBroken {
		t.Errorf("not %d steps: the next one is %v", n, err)
	}
	s.Break(0)
}

// expectNothing: the call changes nothing of the store, and takes no step.
func expectNothing(t *testing.T, s *runs.Store, call func()) {
	t.Helper()
	before := picture(s)
	expectSteps(t, s, 0, call)
	if after := picture(s); after != before {
		t.Errorf("the store was %.300q and is %.300q", before, after)
	}
}

// picture: all that a store tells.
func picture(s *runs.Store) string {
	var text strings.Builder
	fmt.Fprintln(&text, s.Used(), s.Peak(), s.Made())
	for _, run := range s.Live() {
		size, _ := s.Size(run)
		bytes, err := s.Read(run, 0, size)
		fmt.Fprintf(&text, "%d %d %q %v\n", run, size, bytes, err)
	}
	return text.String()
}

// randoms: numbers that look like chance and are the same each time.
func randoms(seed int) func(below int) int {
	state := uint64(seed) + 1
	return func(below int) int {
		state = state*6364136223846793005 + 1442695040888963407
		return int(state >> 33 % uint64(below))
	}
}
