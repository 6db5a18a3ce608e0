package derive_test

import (
	"errors"
	"fmt"
	"math"
	"slices"
	"strings"
	"testing"

	"hornbook/api"
	"hornbook/derive"
	"hornbook/tables"
)

func TestFeedHandsOnOneSurfaceACall(t *testing.T) { // P16.5
	for _, u := range []*tables.Tables{example(t), whole(t), rich(t)} {
		expectFed(t, u, nil, nil, texts(gather(derive.All(u))))
		expectFed(t, u, []int{}, []int{}, texts(gather(derive.All(u))))
	}
	expectFed(t, example(t), nil, nil, "do redo dos redos doers")
	expectFed(t, read(t, "", "0"), nil, nil, "")
	expectFed(t, read(t, "NEEDAFFIX N\n", list("a/N")), nil, nil, "")
}

// marked: an entry for each set of the five marks; its word tells them.
func marked(t *testing.T) *tables.Tables {
	t.Helper()
	affixes := "NEEDAFFIX a\nFORBIDDENWORD b\nKEEPCASE c\nCOMPOUNDFLAG d\nNOSUGGEST e\nSFX S Y 1\nSFX S 0 s\n"
	var entries []string
	for set := range 1 << api.Specials {
		entry := wordOf(set) + "/S"
		for which := range api.Specials {
			if set>>which&1 == 1 {
				entry += string([]byte{'a' + byte(which)})
			}
		}
		entries = append(entries, entry)
	}
	return read(t, affixes, list(entries...))
}

func wordOf(set int) string { return fmt.Sprintf("w%05b", set) }

// TestFeedOfMarkedEntries: of each set of marks with all sets of with and without.
func TestFeedOfMarkedEntries(t *testing.T) { // P16.5
	u := marked(t)
	for with := range 1 << api.Specials {
		for without := range 1 << api.Specials {
			var want []string
			for set := range 1 << api.Specials {
				if set&with != with || set&without != 0 {
					continue
				}
				if set>>api.Need&1 == 0 {
					want = append(want, wordOf(set))
				}
				want = append(want, wordOf(set)+"s")
			}
			if got := fed(t, u, marksOf(with), marksOf(without)); !slices.Equal(got, want) {
				t.Errorf("Feed(%05b, %05b) hands on %q; want %q", with, without, got, want)
			}
		}
	}
}

// marksOf: the numbers of a set.
func marksOf(set int) []int {
	var marks []int
	for which := range api.Specials {
		if set>>which&1 == 1 {
			marks = append(marks, which)
		}
	}
	return marks
}

func TestFeedOfListsInAnyOrder(t *testing.T) { // P16.5
	u := read(t, "FORBIDDENWORD F\nKEEPCASE K\nNOSUGGEST Q\n", list("a", "b/F", "c/K", "d/FK", "e/FKQ", "f/Q"))
	expectFed(t, u, []int{api.Forbid, api.Keep}, nil, "d e")
	expectFed(t, u, []int{api.Keep, api.Forbid, api.Keep, api.Keep}, nil, "d e")
	expectFed(t, u, nil, []int{api.Quiet, api.Forbid, api.Forbid}, "a c")
	expectFed(t, u, []int{api.Forbid}, []int{api.Quiet}, "b d")
	expectFed(t, u, []int{api.Forbid}, []int{api.Forbid}, "")
	expectFed(t, u, []int{api.Forbid, api.Quiet}, []int{api.Keep}, "")
	// Marks that no entry has: one that no flag is for, and one whose flag stands at none.
	expectFed(t, u, []int{api.Part}, nil, "")
	expectFed(t, u, nil, []int{api.Part, api.Need}, "a b c d e f")
	u = read(t, "COMPOUNDFLAG P\n", list("a", "b"))
	expectFed(t, u, []int{api.Part}, nil, "")
	expectFed(t, u, nil, []int{api.Part}, "a b")
}

func TestFeedOfMarksThatAreNone(t *testing.T) { // P16.5
	u := read(t, "FORBIDDENWORD F\nNOSUGGEST Q\n", list("a", "b/F", "c/FQ"))
	for _, which := range places(api.Specials) {
		if which >= 0 && which < api.Specials {
			continue
		}
		expectFed(t, u, []int{which}, nil, "")
		expectFed(t, u, []int{api.Forbid, which}, nil, "")
		expectFed(t, u, []int{which, api.Forbid}, []int{which}, "")
		expectFed(t, u, nil, []int{which}, "a b c")
		expectFed(t, u, nil, []int{which, api.Quiet}, "a b")
		expectFed(t, u, []int{api.Forbid}, []int{api.Quiet, which}, "b")
	}
}

func TestFeedTakeIsNil(t *testing.T) { // P16.5
	for _, u := range []*tables.Tables{nil, example(t), rich(t), endless(t)} {
		for _, marks := range [][]int{nil, {}, {api.Forbid}, {math.MinInt}} {
			if err := derive.Feed(u, nil, marks, marks); err != nil {
				t.Errorf("Feed(nil, %v) = %v", marks, err)
			}
		}
	}
}

// own is an error of a type of its own: just this value must come back.
type own struct{ at int }

func (e *own) Error() string { return fmt.Sprint("refused at ", e.at) }

func TestFeedEndsAtAnError(t *testing.T) { // P16.5
	u := rich(t)
	without := []int{api.Forbid}
	all := fed(t, u, nil, without)
	if len(all) < 20 {
		t.Fatalf("only %q", all)
	}
	for at := range len(all) + 2 {
		for _, refusal := range []error{api.FailFull, &own{at}, api.ErrBytes, errors.New("refused")} {
			var got []string
			err := derive.Feed(u, func(words ...string) error {
				got = append(got, words...)
				if len(got) == at+1 {
					return refusal
				}
				return nil
			}, nil, without)
			if at >= len(all) {
				refusal = nil
			}
			if err != refusal || !slices.Equal(got, all[:min(at+1, len(all))]) {
				t.Errorf("refused at %d: Feed = %v behind %q", at, err, got)
			}
		}
	}
}

// TestFeedOfARefusalAtEachCall: only the first one is met.
func TestFeedOfARefusalAtEachCall(t *testing.T) { // P16.5
	calls := 0
	err := derive.Feed(rich(t), func(...string) error { calls++; return &own{calls} }, nil, nil)
	var refused *own
	if !errors.As(err, &refused) || refused.at != 1 || calls != 1 {
		t.Errorf("Feed = %v behind %d calls", err, calls)
	}
}

// TestTakeMayAskToo: what is handed on doesn't hang on what take asks, or does with what it is given.
func TestTakeMayAskToo(t *testing.T) { // P16.5
	u := rich(t)
	want := fed(t, u, nil, nil)
	var got []string
	var kept [][]string
	err := derive.Feed(u, func(words ...string) error {
		got, kept = append(got, words...), append(kept, words)
		derive.List(u, len(got)%10, 3)
		for range derive.All(u) {
			break
		}
		if len(got)%7 == 0 {
			return derive.Feed(u, func(...string) error { return nil }, nil, nil)
		}
		return nil
	}, nil, nil)
	if err != nil || !slices.Equal(got, want) {
		t.Errorf("Feed = %v, hands on %q; want %q", err, got, want)
	}
	if flat := strings.Join(slices.Concat(kept...), " "); flat != strings.Join(want, " ") {
		t.Errorf("what was kept became %q", flat)
	}
}
