package derive_test

import (
	"math"
	"slices"
	"strings"
	"sync"
	"testing"
	"unsafe"

	"hornbook/api"
	"hornbook/derive"
	"hornbook/tables"
)

// What the document says of all layers, held at this one.

func TestNoCallPanics(t *testing.T) { // P1, rule 5
	for _, u := range []*tables.Tables{nil, example(t), rich(t), read(t, "", "0"), read(t, "SFX A Y 0\nPFX P Y 0\n", list("a/AP"))} {
		for _, n := range places(10) {
			gather(derive.Each(u, n))
			derive.List(u, n, n)
			derive.List(u, 0, n)
			derive.Measure(u, n)
			take := func(...string) error { return nil }
			derive.Feed(u, take, []int{n}, []int{n, 0})
			derive.Feed(u, nil, []int{n}, []int{n, 0})
			for _, m := range places(10) {
				derive.Make(u, told(long(99999), n, m, -1, -1))
				derive.Make(u, told("", 0, n, m, 5))
				derive.Make(u, told("", 0, -1, n, m))
				derive.Make(u, told("\x00", m, 3, 2, n))
			}
		}
		gather(derive.All(u))
	}
}

// TestATakeThatPanics: what it does is its own business, and what is asked later doesn't hang on it.
func TestATakeThatPanics(t *testing.T) { // P1, rule 8
	u := rich(t)
	want := shown(u)
	func() {
		defer func() {
			if recover() != "mine" {
				t.Errorf("the panic didn't come through")
			}
		}()
		derive.Feed(u, func(...string) error { panic("mine") }, nil, nil)
	}()
	if got := shown(u); got != want {
		t.Errorf("%s\nbecame\n%s", want, got)
	}
}

func TestWhatIsHandedInIsNotChanged(t *testing.T) { // rule 4
	u := rich(t)
	want := shown(u)
	all := []int{api.Keep, api.Forbid, 9, api.Forbid, -1, 4, 3, 0}
	before := slices.Clone(all)
	for low := range len(all) {
		for high := low; high <= len(all); high++ {
			derive.Feed(u, func(...string) error { return nil }, all[low:high], all[:low])
			derive.Feed(u, func(...string) error { return api.FailFull }, all[:low], all[low:high])
		}
	}
	if !slices.Equal(all, before) {
		t.Errorf("%v became %v", before, all)
	}
	d := told("do", 0, 3, 2, 6)
	derive.Make(u, d)
	if d != told("do", 0, 3, 2, 6) {
		t.Errorf("the derivation became %v", d)
	}
	if got := shown(u); got != want {
		t.Errorf("%s\nbecame\n%s", want, got)
	}
}

// TestWhatLiesBehindAListIsNotRead: marks behind with and without don't count.
func TestWhatLiesBehindAListIsNotRead(t *testing.T) { // rule 4
	u := read(t, "FORBIDDENWORD F\nKEEPCASE K\n", list("a", "b/F", "c/FK"))
	marks := []int{api.Forbid, api.Keep, 9}
	expectFed(t, u, marks[:1], nil, "b c")
	expectFed(t, u, marks[:0], marks[1:2], "a b")
	expectFed(t, u, marks[:1], marks[1:1], "b c")
	expectFed(t, u, marks[:2], marks[2:], "c")
}

func TestWhatIsHandedInIsNotKept(t *testing.T) { // rules 4 and 8
	u := read(t, "FORBIDDENWORD F\nKEEPCASE K\n", list("a", "b/F", "c/FK"))
	marks := []int{api.Forbid}
	expectFed(t, u, marks, nil, "b c")
	marks[0] = api.Keep
	expectFed(t, u, marks, nil, "c")
	expectFed(t, u, nil, marks, "a b")
	marks[0] = 9
	expectFed(t, u, nil, marks, "a b c")
	expectFed(t, u, nil, nil, "a b c")
	calls := 0
	derive.Feed(u, func(...string) error { calls++; return nil }, nil, nil)
	gather(derive.All(u))
	expectFed(t, u, nil, nil, "a b c")
	if calls != 3 {
		t.Errorf("take was called %d times", calls)
	}
}

func TestListsAreNewMemory(t *testing.T) { // P16.2, rule 4
	u := rich(t)
	want := shown(u)
	for entry := range u.Len() {
		first, second := derive.List(u, entry, 9), derive.List(u, entry, 9)
		before := slices.Clone(second)
		whole := first[:cap(first)]
		for i := range whole {
			if i >= len(first) && whole[i] != (api.Derived{}) {
				t.Errorf("behind the list of %d lies %v", entry, whole[i])
			}
			whole[i] = told("?", 7, 7, 7, 7)
		}
		if !slices.Equal(second, before) || !slices.Equal(derive.List(u, entry, 9), before) {
			t.Errorf("two lists of the entry %d share memory", entry)
		}
	}
	if got := shown(u); got != want {
		t.Errorf("%s\nbecame\n%s", want, got)
	}
}

// TestTakeMayKeepAndWrite: each call's list is one of its own.
func TestTakeMayKeepAndWrite(t *testing.T) { // P16.5, rule 4
	u := rich(t)
	want := fed(t, u, nil, nil)
	var kept [][]string
	var got []string
	derive.Feed(u, func(words ...string) error {
		got = append(got, words...)
		for i := range words[:cap(words)] {
			words[:cap(words)][i] = "?"
		}
		kept = append(kept, words)
		return nil
	}, nil, nil)
	if !slices.Equal(got, want) {
		t.Errorf("Feed hands on %q; want %q", got, want)
	}
	for i := range kept {
		kept[i][0] = want[i]
	}
	if flat := slices.Concat(kept...); !slices.Equal(flat, want) {
		t.Errorf("the lists share memory: %q", flat)
	}
	if again := fed(t, u, nil, nil); !slices.Equal(again, want) {
		t.Errorf("Feed hands on %q; want %q", again, want)
	}
}

// TestTheTextsMayChangeLater: the tables are of texts whose memory is written over.
func TestTheTextsMayChangeLater(t *testing.T) { // rule 4
	affixes, words := []byte("SFX A Y 1\nSFX A y ies [^a]y\nPFX P Y 1\nPFX P 0 re\n"), []byte("2\nfly/AP\nsing/A\n")
	u := read(t, unsafe.String(&affixes[0], len(affixes)), unsafe.String(&words[0], len(words)))
	each := derive.All(u)
	got := gather(each)
	for _, bytes := range [][]byte{affixes, words} {
		for i := range bytes {
			bytes[i] = '?'
		}
	}
	if texts(got) != "fly refly flies reflies sing" || !slices.Equal(gather(each), got) {
		t.Errorf("%v became %v", got, gather(each))
	}
}

func TestNothingIsKeptBetweenCalls(t *testing.T) { // rules 3 and 8
	u := rich(t)
	want, each := shown(u), derive.Each(u, 0)
	for range 3 {
		derive.Make(u, told("", 0, 7, 7, 7))
		derive.Measure(u, 7)
		derive.Measure(whole(t), math.MaxInt)
		derive.Feed(u, func(...string) error { return api.FailFull }, nil, nil)
		for range each {
			break
		}
		if got := shown(u); got != want || len(gather(each)) != 16 {
			t.Fatalf("%s\nbecame\n%s", want, got)
		}
	}
}

func TestTablesThatWereReadApart(t *testing.T) { // P2
	first, same, other := rich(t), rich(t), whole(t)
	want, small := shown(first), shown(other)
	if shown(same) != want || strings.Contains(small, "reflies") {
		t.Errorf("%s\nand\n%s", want, small)
	}
	// Derivations of the one mean nothing to the other.
	expectNone(t, other, 0, 3, 2, 6)
	expectMade(t, other, told("flies", 0, 1, -1, -1))
	expectNone(t, first, 0, 1, -1, -1)
	if shown(first) != want || shown(other) != small {
		t.Errorf("they have to do with one another")
	}
}

func TestCallsAtTheSameTime(t *testing.T) { // P2
	u, all := rich(t), derive.All(rich(t))
	want, other, given := shown(u), shown(whole(t)), gather(all)
	got := make([]string, 16)
	var wait sync.WaitGroup
	for i := range got {
		wait.Go(func() {
			if i%2 == 0 {
				got[i] = shown(u)
			} else if own, fault := tables.Read(wholeAffixes, wholeWords); fault == (api.Fault{}) {
				got[i] = shown(own)
			}
			if !slices.Equal(gather(all), given) {
				got[i] = "the iterator gives others"
			}
		})
	}
	wait.Wait()
	for i, text := range got {
		if text != []string{want, other}[i%2] {
			t.Errorf("call %d: %s", i, text)
		}
	}
}
