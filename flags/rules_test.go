package flags_test

import (
	"slices"
	"strings"
	"sync"
	"testing"

	"hornbook/api"
	"hornbook/flags"
)

// What the document says of all layers, held at this one.

func TestNoCallPanics(t *testing.T) { // P1, rules 5 and 6
	every := make([]byte, 256)
	for i := range every {
		every[i] = byte(i)
	}
	texts := []string{"", ",", "/", "#", "\x00", "\xff", "A", "AB", "1,2", string(every), strings.Repeat(string(every), 300), strings.Repeat("1", 99999), strings.Repeat(",", 99999)}
	sets := []flags.Set{nil, {}, {0}, {65535}, {3, 1, 3}, slices.Repeat(flags.Set{2, 1}, 5000)}
	for _, kind := range append(noKinds, kinds...) {
		for _, s := range texts {
			flags.One(kind, s)
			flags.Read(kind, s)
		}
		for _, set := range sets {
			flags.Show(kind, set...)
		}
	}
	for _, s := range sets {
		for _, fs := range sets {
			s.Any(fs...)
			s.All(fs...)
			s.With(fs...)
			s.Without(fs...)
			s.Equal(fs)
			flags.Fold(nil, s, fs)
			flags.Fold(flags.Set.With, s, fs, nil)
			flags.Fold(flags.Set.Without, s, nil, fs)
		}
	}
}

// calls: each call that takes lists, and the lists that it answers.
func calls(s flags.Set, fs []api.Flag) []flags.Set {
	s.Has(1)
	s.Any(fs...)
	s.All(fs...)
	s.Count()
	s.Equal(fs)
	flags.Show(api.Numbers, fs...)
	return []flags.Set{
		s.With(fs...), s.Without(fs...), flags.Of(s...), flags.Of(fs...), s.With(), s.Without(),
		flags.Fold(nil, s, fs), flags.Fold(flags.Set.With, s), flags.Fold(flags.Set.With, s, fs), flags.Fold(flags.Set.Without, s, fs),
		flags.Fold(func(t flags.Set, _ ...api.Flag) flags.Set { return t }, s, fs),
		flags.Fold(func(_ flags.Set, gs ...api.Flag) flags.Set { return gs }, s, fs),
	}
}

func TestWhatIsHandedInStaysAsItIs(t *testing.T) { // P3.4, rule 4
	for _, c := range []struct{ s, fs flags.Set }{
		{flags.Set{5, 3, 3, 9}, flags.Set{9, 4, 9, 1}},
		{flags.Set{1, 3, 5}, flags.Set{2, 4}},
		{flags.Set{1, 3, 5}, flags.Set{1, 3, 5}},
	} {
		// Behind the lists' length lies what no call may read or write.
		s, fs := withRoom(c.s), withRoom(c.fs)
		calls(s, fs)
		if !slices.Equal(s, c.s) || !slices.Equal(fs, c.fs) || !roomIsWhole(s) || !roomIsWhole(fs) {
			t.Errorf("%v and %v became %v and %v", c.s, c.fs, s[:cap(s)], fs[:cap(fs)])
		}
	}
}

const inTheRoom = 4711

func withRoom(set flags.Set) flags.Set {
	list := append(slices.Clone(set), inTheRoom, inTheRoom, inTheRoom, inTheRoom, inTheRoom)
	return list[:len(set)]
}

func roomIsWhole(set flags.Set) bool {
	room := set[len(set):cap(set)][:5]
	return !slices.ContainsFunc(room, func(f api.Flag) bool { return f != inTheRoom })
}

func TestAnAnsweredSetIsNewMemory(t *testing.T) { // P3.4, rule 4
	for _, c := range []struct{ s, fs flags.Set }{
		{flags.Set{5, 3, 3, 9}, flags.Set{9, 4, 9, 1}},
		{flags.Set{1, 3, 5}, flags.Set{2, 4}},
		{flags.Set{1, 3, 5}, nil},
		{flags.Set{1, 3, 5}, flags.Set{1}},
	} {
		s, fs := withRoom(c.s), withRoom(c.fs)
		want := calls(c.s, c.fs)
		got := calls(s, fs)
		for i := range got {
			if slices.Contains(got[i][:cap(got[i])], inTheRoom) {
				t.Errorf("answer %d hands out what lies behind a list: %v", i, got[i][:cap(got[i])])
			}
			expectSet(t, "of equal lists", got[i], want[i])
			scribble(got[i])
			if !slices.Equal(s, c.s) || !slices.Equal(fs, c.fs) || !roomIsWhole(s) || !roomIsWhole(fs) {
				t.Fatalf("answer %d shares memory with what was handed in", i)
			}
			for j := i + 1; j < len(got); j++ {
				if !slices.Equal(got[j], want[j]) {
					t.Fatalf("the answers %d and %d share memory", i, j)
				}
			}
		}
		clear(s)
		for i, again := range calls(slices.Clone(c.s), fs) {
			expectSet(t, "asked again", again, want[i])
		}
	}
}

// scribble writes over all that a list can be made to reach.
func scribble(set flags.Set) {
	all := set[:cap(set)]
	for i := range all {
		all[i] = 60000
	}
}

func TestAReadSetIsNewMemory(t *testing.T) { // P3.2, rule 4
	first, _ := flags.Read(api.Short, "BA")
	scribble(first)
	expectRead(t, api.Short, "BA", flags.Set{65, 66})
}

func TestNothingIsKeptBetweenCalls(t *testing.T) { // rules 3 and 8, P2
	ask := func() string {
		set, _ := flags.Read(api.Short, "CAB")
		text, _ := flags.Show(api.Numbers, set.Without(66)...)
		return text
	}
	want := ask()
	if want != "65,67" {
		t.Fatalf("%q", want)
	}
	flags.Read(api.Short, "CAB/")
	flags.Read(9, "CAB")
	flags.Show(api.Numbers, 0)
	flags.One(api.Long, "C")
	if got := ask(); got != want {
		t.Errorf("%q became %q", want, got)
	}
}

func TestCallsAtTheSameTime(t *testing.T) { // P2
	var wait sync.WaitGroup
	shared := flags.Set{3, 1, 3, 2}
	got := make([]string, 16)
	for i := range got {
		wait.Go(func() {
			set := flags.Fold(flags.Set.With, shared, []api.Flag{api.Flag(4 + i%2)})
			got[i], _ = flags.Show(api.Numbers, set...)
		})
	}
	wait.Wait()
	for i, s := range got {
		if want := []string{"1,2,3,4", "1,2,3,5"}[i%2]; s != want {
			t.Errorf("call %d: %q", i, s)
		}
	}
}
