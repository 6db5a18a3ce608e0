package flags_test

import (
	"slices"
	"testing"

	"hornbook/api"
	"hornbook/flags"
)

func TestOfIsRisingEachOnce(t *testing.T) { // P3.4
	for _, c := range []struct{ fs, want flags.Set }{
		{nil, nil},
		{flags.Set{}, nil},
		{flags.Set{0}, flags.Set{0}},
		{flags.Set{3, 1, 3}, flags.Set{1, 3}},
		{flags.Set{9, 8, 7}, flags.Set{7, 8, 9}},
		{flags.Set{7, 7, 7}, flags.Set{7}},
		{flags.Set{65535, 0, 65535, 0}, flags.Set{0, 65535}},
	} {
		expectSet(t, "Of", flags.Of(c.fs...), c.want)
		if got := c.fs.Count(); got != len(c.want) {
			t.Errorf("%v.Count() = %d", c.fs, got)
		}
	}
	expectSet(t, "Of", flags.Of(), nil)
}

func expectSet(t *testing.T, what string, got flags.Set, want []api.Flag) {
	t.Helper()
	if !slices.Equal(got, want) {
		t.Errorf("%s: %v; want %v", what, got, want)
	}
}

func TestHas(t *testing.T) { // P3.4
	s := flags.Set{9, 0, 3, 9, 65535}
	for _, f := range []api.Flag{9, 0, 3, 65535} {
		if !s.Has(f) {
			t.Errorf("%d is missing", f)
		}
	}
	for _, f := range []api.Flag{1, 2, 4, 8, 10, 65534} {
		if s.Has(f) {
			t.Errorf("%d is there", f)
		}
	}
	// No flag is in the set of none, and 0 is a flag like others there.
	if (flags.Set{}).Has(0) || flags.Set(nil).Has(0) || (flags.Set{1}).Has(0) {
		t.Errorf("0 is where it is not")
	}
}

func TestAnyAndAll(t *testing.T) { // P3.4
	for _, c := range []struct {
		s, fs    flags.Set
		any, all bool
	}{
		{nil, nil, false, true},
		{flags.Set{}, flags.Set{}, false, true},
		{flags.Set{1}, nil, false, true},
		{flags.Set{0}, nil, false, true},
		{nil, flags.Set{1}, false, false},
		{nil, flags.Set{0}, false, false},
		{flags.Set{0}, flags.Set{0}, true, true},
		{flags.Set{1}, flags.Set{0}, false, false},
		{flags.Set{3, 1, 3}, flags.Set{2, 3}, true, false},
		{flags.Set{3, 1, 3}, flags.Set{3, 2}, true, false},
		{flags.Set{3, 1, 3}, flags.Set{3, 1}, true, true},
		{flags.Set{3, 1, 3}, flags.Set{1, 1, 1, 3}, true, true},
		{flags.Set{3, 1, 3}, flags.Set{2, 2}, false, false},
		{flags.Set{3, 3, 3}, flags.Set{1, 3}, true, false},
		{flags.Set{1, 2, 3}, flags.Set{4, 5, 6, 7}, false, false},
	} {
		if got := c.s.Any(c.fs...); got != c.any {
			t.Errorf("%v.Any(%v) = %v", c.s, c.fs, got)
		}
		if got := c.s.All(c.fs...); got != c.all {
			t.Errorf("%v.All(%v) = %v", c.s, c.fs, got)
		}
	}
}

func TestWithAndWithout(t *testing.T) { // P3.4
	for _, c := range []struct{ s, fs, with, without flags.Set }{
		{nil, nil, nil, nil},
		{nil, flags.Set{2, 1, 2}, flags.Set{1, 2}, nil},
		{flags.Set{2, 1, 2}, nil, flags.Set{1, 2}, flags.Set{1, 2}},
		{flags.Set{3, 1, 3}, flags.Set{2, 2}, flags.Set{1, 2, 3}, flags.Set{1, 3}},
		{flags.Set{3, 1, 3}, flags.Set{3}, flags.Set{1, 3}, flags.Set{1}},
		{flags.Set{3, 1, 3}, flags.Set{1, 3, 1}, flags.Set{1, 3}, nil},
		{flags.Set{0, 5}, flags.Set{0}, flags.Set{0, 5}, flags.Set{5}},
		{flags.Set{5}, flags.Set{0}, flags.Set{0, 5}, flags.Set{5}},
		{flags.Set{9, 8, 7, 8}, flags.Set{8, 6}, flags.Set{6, 7, 8, 9}, flags.Set{7, 9}},
		{flags.Set{65535}, flags.Set{65535, 0}, flags.Set{0, 65535}, nil},
	} {
		expectSet(t, "With", c.s.With(c.fs...), c.with)
		expectSet(t, "Without", c.s.Without(c.fs...), c.without)
	}
}

func TestEqual(t *testing.T) { // P3.4
	for _, c := range []struct {
		s, t flags.Set
		want bool
	}{
		{nil, nil, true},
		{nil, flags.Set{}, true},
		{nil, flags.Set{0}, false},
		{flags.Set{3, 1, 3}, flags.Set{1, 3}, true},
		{flags.Set{3, 1, 3}, flags.Set{1, 1, 3}, true},
		{flags.Set{1, 2}, flags.Set{2, 1}, true},
		{flags.Set{1, 3}, flags.Set{1}, false},
		{flags.Set{1, 3}, flags.Set{1, 2}, false},
		{flags.Set{1, 1}, flags.Set{1, 2}, false},
	} {
		if c.s.Equal(c.t) != c.want || c.t.Equal(c.s) != c.want {
			t.Errorf("%v.Equal(%v) is not %v", c.s, c.t, c.want)
		}
	}
}

func TestSetsOfAllFlags(t *testing.T) { // P3.4
	all := make(flags.Set, 1<<16)
	for i := range all {
		all[len(all)-1-i] = api.Flag(i)
	}
	odd := slices.DeleteFunc(slices.Clone(all), func(f api.Flag) bool { return f%2 == 0 })
	even := all.Without(odd...)
	if all.Count() != 1<<16 || odd.Count() != 1<<15 || even.Count() != 1<<15 {
		t.Errorf("%d, %d, %d", all.Count(), odd.Count(), even.Count())
	}
	if odd.Any(even...) || !all.All(odd...) || odd.All(all...) || !even.With(odd...).Equal(all) {
		t.Errorf("the odd and the even ones")
	}
}

func TestFold(t *testing.T) { // P3.5
	group := func(fs ...api.Flag) []api.Flag { return fs }
	for _, c := range []struct {
		what      string
		got, want flags.Set
	}{
		{"Without", flags.Fold(flags.Set.Without, flags.Set{1, 2, 3}, group(2), group(3)), flags.Set{1}},
		{"With", flags.Fold(flags.Set.With, nil, group(3, 1), group(2, 3)), flags.Set{1, 2, 3}},
		{"no groups", flags.Fold(flags.Set.With, flags.Set{3, 1, 3}), flags.Set{1, 3}},
		{"empty groups", flags.Fold(flags.Set.With, flags.Set{3, 1, 3}, nil, group()), flags.Set{1, 3}},
		{"nil op", flags.Fold(nil, flags.Set{3, 1, 3}, group(2), group(4)), flags.Set{1, 3}},
		{"nil op, no groups", flags.Fold(nil, flags.Set{3, 1, 3}), flags.Set{1, 3}},
		{"nothing at all", flags.Fold(nil, nil), nil},
		{"the flag 0", flags.Fold(flags.Set.With, flags.Set{0}, group(0)), flags.Set{0}},
	} {
		expectSet(t, c.what, c.got, c.want)
	}
}

func TestFoldGivesOpTheGroupsInTheirOrder(t *testing.T) { // P3.5
	var seen []flags.Set
	op := func(s flags.Set, fs ...api.Flag) flags.Set {
		seen = append(seen, slices.Clone(s), slices.Clone(fs))
		// An answer that falls and has repeats is a set too.
		return append(flags.Set{9, 9}, fs...)
	}
	got := flags.Fold(op, flags.Set{2, 1, 2}, []api.Flag{7, 5, 7}, nil, []api.Flag{4, 4})
	expectSet(t, "the last answer", got, []api.Flag{4, 9})
	want := []flags.Set{{1, 2}, {7, 5, 7}, {9, 9, 7, 5, 7}, nil, {9, 9}, {4, 4}}
	if len(seen) != len(want) {
		t.Fatalf("op got %v", seen)
	}
	for i := range want {
		// A group comes as it stands; a set may be told in any order.
		if i%2 == 1 && !slices.Equal(seen[i], want[i]) || !seen[i].Equal(want[i]) {
			t.Errorf("op got %v as its list %d; want %v", seen[i], i, want[i])
		}
	}
}

func TestFoldMayGetNothingOfOp(t *testing.T) { // P3.5
	op := func(flags.Set, ...api.Flag) flags.Set { return nil }
	expectSet(t, "nil of op", flags.Fold(op, flags.Set{1}, []api.Flag{2}), nil)
	expectSet(t, "op is not called", flags.Fold(op, flags.Set{1}), []api.Flag{1})
}

func TestFoldGivesOpListsOfItsOwn(t *testing.T) { // P3.5, rule 4
	start := flags.Set{1, 2, 3}
	one, two := []api.Flag{4, 5}, []api.Flag{6, 7}
	var kept []flags.Set
	op := func(s flags.Set, fs ...api.Flag) flags.Set {
		answer := s.With(fs...)
		// What op does to its lists, now or later, reaches nothing else.
		for _, list := range append(kept, s, fs) {
			clear(list)
			_ = append(list, 99)
		}
		kept = append(kept, s, fs)
		return answer
	}
	got := flags.Fold(op, start, one, two, one)
	expectSet(t, "the answer", got, []api.Flag{1, 2, 3, 4, 5, 6, 7})
	for _, list := range kept {
		clear(list[:cap(list)])
	}
	expectSet(t, "the answer behind that", got, []api.Flag{1, 2, 3, 4, 5, 6, 7})
	expectSet(t, "start", start, []api.Flag{1, 2, 3})
	expectSet(t, "the first group", one, []api.Flag{4, 5})
	expectSet(t, "the second group", two, []api.Flag{6, 7})
}

func TestFoldTakesItsOwnCopyOfWhatOpKeeps(t *testing.T) { // P3.5, rule 4
	kept := flags.Set{2, 1}
	op := func(s flags.Set, fs ...api.Flag) flags.Set {
		// The list that op answered before is still op's own.
		clear(s)
		return kept
	}
	got := flags.Fold(op, nil, []api.Flag{5}, []api.Flag{6}, nil)
	expectSet(t, "what op keeps", kept, []api.Flag{2, 1})
	expectSet(t, "the answer", got, []api.Flag{1, 2})
	kept[0] = 9
	expectSet(t, "the answer behind that", got, []api.Flag{1, 2})
}
