package streams_test

import (
	"fmt"
	"iter"
	"math"
	"slices"
	"testing"

	"hornbook/streams"
)

func TestOfNothing(t *testing.T) { // P8.1
	expectGives(t, streams.Of())
	expectGives(t, streams.Of([]string(nil)...))
	expectGives(t, streams.Of([]string{}...))
}

func TestOf(t *testing.T) { // P8.1
	expectGives(t, streams.Of("b", "a", "b"), "a", "b")
	expectGives(t, streams.Of("a"), "a")
	expectGives(t, streams.Of(""), "")
	expectGives(t, streams.Of("", ""), "")
	expectGives(t, streams.Of("", "a", "", "a", ""), "", "a")
	expectGives(t, streams.Of("x", "x", "x", "x", "x", "x"), "x")
	expectGives(t, streams.Of("d", "c", "b", "a"), "a", "b", "c", "d")
	expectGives(t, streams.Of("d", "d", "c", "c", "b", "b"), "b", "c", "d")
	expectGives(t, streams.Of("10", "9", "1"), "1", "10", "9")
	expectGives(t, streams.Of("ab\n", "ab", "ab c"), "ab", "ab\n", "ab c")
	expectGives(t, streams.Of(long(70001), long(70000), long(70001)), long(70000), long(70001))
}

func TestOfEdgyTextsInAnyOrder(t *testing.T) { // P8.1
	rising := edgy()
	for turn := range rising {
		list := append(slices.Clone(rising[turn:]), rising[:turn]...)
		expectGives(t, streams.Of(list...), rising...)
		slices.Reverse(list)
		expectGives(t, streams.Of(append(list, list...)...), rising...)
	}
}

func TestOfManyTexts(t *testing.T) { // P8.1
	var list, want []string
	for n := range 20000 {
		list = append(list, fmt.Sprintf("%05d", n*7919%10007))
	}
	for n := range 10007 {
		want = append(want, fmt.Sprintf("%05d", n))
	}
	expectGives(t, streams.Of(list...), want...)
}

func TestTheZeroStreamGivesNone(t *testing.T) { // section 'Words of this layer'
	var none streams.Stream
	expectGives(t, none)
	expectGives(t, streams.Stream{})
	expectGives(t, none.From(""))
	expectGives(t, none.From("a"))
	expectGives(t, none.Minus(none))
	expectGives(t, none.Common(none))
	expectGives(t, streams.Union(none))
	expectGives(t, streams.Union(none, none, none))
	for _, some := range []streams.Stream{streams.Of("", "a"), streams.Union(streams.Of("", "a"))} {
		expectGives(t, none.Minus(some))
		expectGives(t, none.Common(some))
		expectGives(t, some.Minus(none), "", "a")
		expectGives(t, some.Common(none))
		expectGives(t, streams.Union(none, some), "", "a")
		expectGives(t, streams.Union(some, none), "", "a")
		expectGives(t, streams.Union(none, some, none, some, none), "", "a")
	}
}

func TestAllIsLeftAndBegunAnew(t *testing.T) { // P8.2
	s := streams.Of("a", "b", "c", "d")
	all := s.All()
	for _, at := range []string{"a", "c", "d", "a", "none"} {
		var got []string
		for w := range all {
			got = append(got, w)
			if w == at {
				break
			}
		}
		n := 4
		if i := slices.Index([]string{"a", "b", "c", "d"}, at); i >= 0 {
			n = i + 1
		}
		if !slices.Equal(got, []string{"a", "b", "c", "d"}[:n]) {
			t.Errorf("left at %q: %q", at, got)
		}
	}
	expectGives(t, s, "a", "b", "c", "d")
}

// kinds: a stream of "a", "b", "c" of each kind.
func kinds() map[string]streams.Stream {
	abc := streams.Of("c", "a", "b")
	return map[string]streams.Stream{
		"Of":     abc,
		"Union":  streams.Union(streams.Of("a", "c"), streams.Of("b", "c")),
		"Minus":  streams.Of("a", "b", "bb", "c").Minus(streams.Of("", "bb", "d")),
		"Common": streams.Of("a", "b", "bb", "c").Common(streams.Of("", "a", "b", "c", "d")),
		"From":   streams.Of("", "A", "a", "b", "c").From("a"),
		"of all": streams.Union(abc, abc.Minus(streams.Of("b"))).Common(streams.Union(abc)).From(""),
	}
}

func TestWalksSideBySide(t *testing.T) { // P8.2, section 'Words of this layer'
	for name, s := range kinds() {
		all := s.All()
		first, stopFirst := iter.Pull(all)
		second, stopSecond := iter.Pull(all)
		third, stopThird := iter.Pull(s.All())
		expect := func(next func() (string, bool), want string, more bool) {
			t.Helper()
			if got, ok := next(); got != want || ok != more {
				t.Errorf("%s: %q, %v; want %q", name, got, ok, want)
			}
		}
		expect(first, "a", true)
		expect(first, "b", true)
		expect(second, "a", true)
		expect(third, "a", true)
		stopThird()
		expect(first, "c", true)
		expect(second, "b", true)
		expect(first, "", false)
		expect(second, "c", true)
		expect(second, "", false)
		stopFirst()
		stopSecond()
	}
}

func TestWalksInsideOneAnother(t *testing.T) { // P8.2
	for name, s := range kinds() {
		var got []string
		for a := range s.All() {
			for b := range s.All() {
				if b == "c" {
					break
				}
				got = append(got, a+b)
			}
		}
		if !slices.Equal(got, []string{"aa", "ab", "ba", "bb", "ca", "cb"}) {
			t.Errorf("%s: %q", name, got)
		}
	}
}

func TestAPanicOfTheTakersIsTheTakers(t *testing.T) { // P1, P8.2
	for name, s := range kinds() {
		func() {
			defer func() {
				if got := recover(); got != "b" {
					t.Errorf("%s: %v", name, got)
				}
			}()
			for w := range s.All() {
				if w == "b" {
					panic(w)
				}
			}
		}()
		expectGives(t, s, "a", "b", "c")
	}
}

func TestList(t *testing.T) { // P8.2
	s := streams.Of("b", "", "a")
	for most, want := range map[int][]string{
		math.MinInt: nil, -1: nil, 0: nil,
		1: {""}, 2: {"", "a"}, 3: {"", "a", "b"}, 4: {"", "a", "b"}, 1 << 40: {"", "a", "b"}, math.MaxInt: {"", "a", "b"},
	} {
		if got := s.List(most); !slices.Equal(got, want) {
			t.Errorf("List(%d) = %q; want %q", most, got, want)
		}
	}
}

func TestHas(t *testing.T) { // P8.2
	s := streams.Of("b", "d", "da", "\xe4")
	for w, want := range map[string]bool{
		"": false, "a": false, "ba": false, "c": false, "d\x00": false, "db": false, "D": false, "\xe3": false, "\xe4\x00": false, "\xff": false,
		"b": true, "d": true, "da": true, "\xe4": true,
	} {
		if got := s.Has(w); got != want {
			t.Errorf("Has(%q) = %v", w, got)
		}
	}
	if streams.Of("a").Has("") || !streams.Of("", "a").Has("") || streams.Of().Has("") {
		t.Errorf("Has of the empty text")
	}
}

func TestUnion(t *testing.T) { // P8.3
	a, b, c := streams.Of("a", "c"), streams.Of("b"), streams.Of("c")
	expectGives(t, streams.Union())
	expectGives(t, streams.Union([]streams.Stream(nil)...))
	expectGives(t, streams.Union(a), "a", "c")
	expectGives(t, streams.Union(streams.Of()))
	expectGives(t, streams.Union(a, b, c), "a", "b", "c")
	expectGives(t, streams.Union(c, b, a), "a", "b", "c")
	expectGives(t, streams.Union(a, a), "a", "c")
	expectGives(t, streams.Union(b, b, b, b, b), "b")
	expectGives(t, streams.Union(streams.Of(""), a, streams.Of("")), "", "a", "c")
	u := streams.Union(a, b)
	expectGives(t, streams.Union(u), "a", "b", "c")
	expectGives(t, streams.Union(u, u, streams.Union(u, c)), "a", "b", "c")
	expectGives(t, streams.Union(streams.Union(), streams.Union(streams.Union()), c), "c")
	expectGives(t, streams.Union(streams.Of("d", "e"), streams.Of("a", "b")), "a", "b", "d", "e")
	expectGives(t, streams.Union(streams.Of("\xff", ""), streams.Of("\x7f", "\x80")), "", "\x7f", "\x80", "\xff")
}

func TestUnionOfManyStreams(t *testing.T) { // P8.3
	for _, fan := range []int{2, 3, 64, 1000} {
		parts := make([]streams.Stream, fan)
		for i := range parts {
			// Each text stands in two parts.
			var list []string
			for n := range 3000 {
				if n%fan == i || (n+1)%fan == i {
					list = append(list, fmt.Sprintf("%04d", n))
				}
			}
			parts[fan-1-i] = streams.Of(list...)
		}
		var want []string
		for n := range 3000 {
			want = append(want, fmt.Sprintf("%04d", n))
		}
		expectGives(t, streams.Union(parts...), want...)
	}
}

func TestMinus(t *testing.T) { // P8.3
	abc := streams.Of("a", "b", "c")
	expectGives(t, abc.Minus(streams.Of("b", "x")), "a", "c")
	expectGives(t, abc.Minus(abc))
	expectGives(t, abc.Minus(streams.Of()), "a", "b", "c")
	expectGives(t, streams.Of().Minus(abc))
	expectGives(t, abc.Minus(streams.Of("a")), "b", "c")
	expectGives(t, abc.Minus(streams.Of("c")), "a", "b")
	expectGives(t, abc.Minus(streams.Of("", "A", "aa", "bb", "cc", "z")), "a", "b", "c")
	expectGives(t, abc.Minus(streams.Of("", "a", "aa", "b", "bb", "c", "cc")))
	expectGives(t, streams.Of("b").Minus(abc))
	expectGives(t, streams.Of("", "a").Minus(streams.Of("")), "a")
	expectGives(t, streams.Of("", "a").Minus(streams.Of("a")), "")
	expectGives(t, abc.Minus(streams.Of("a")).Minus(streams.Of("c")), "b")
	expectGives(t, abc.Minus(abc.Minus(streams.Of("b"))), "b")
	expectGives(t, streams.Of("\x7f", "\x80", "\xff").Minus(streams.Of("\x80")), "\x7f", "\xff")
}

func TestCommon(t *testing.T) { // P8.3
	abc := streams.Of("a", "b", "c")
	expectGives(t, streams.Of("a", "b").Common(streams.Of("b", "c")), "b")
	expectGives(t, abc.Common(abc), "a", "b", "c")
	expectGives(t, abc.Common(streams.Of()))
	expectGives(t, streams.Of().Common(abc))
	expectGives(t, abc.Common(streams.Of("c", "a")), "a", "c")
	expectGives(t, streams.Of("c").Common(abc), "c")
	expectGives(t, abc.Common(streams.Of("", "A", "aa", "bb", "cc", "z")))
	expectGives(t, abc.Common(streams.Of("", "a", "aa", "b", "bb", "c", "cc")), "a", "b", "c")
	expectGives(t, streams.Of("", "a").Common(streams.Of("", "b")), "")
	expectGives(t, abc.Common(streams.Union(streams.Of("b"), streams.Of("c"))).Common(streams.Of("c", "d")), "c")
	expectGives(t, streams.Of("\x7f", "\x80", "\xff").Common(streams.Of("\x80", "\xff")), "\x80", "\xff")
}

func TestFrom(t *testing.T) { // P8.3
	s := streams.Of("a", "ab", "b")
	expectGives(t, s.From(""), "a", "ab", "b")
	expectGives(t, s.From("A"), "a", "ab", "b")
	expectGives(t, s.From("a"), "a", "ab", "b")
	expectGives(t, s.From("a\x00"), "ab", "b")
	expectGives(t, s.From("aa"), "ab", "b")
	expectGives(t, s.From("ab"), "ab", "b")
	expectGives(t, s.From("ab\x00"), "b")
	expectGives(t, s.From("b"), "b")
	expectGives(t, s.From("b\x00"))
	expectGives(t, s.From("\xff"))
	expectGives(t, s.From("ab").From("a"), "ab", "b")
	expectGives(t, s.From("a").From("b"), "b")
	expectGives(t, streams.Of("", "\x80").From(""), "", "\x80")
	expectGives(t, streams.Of("", "\x80").From("\x7f"), "\x80")
	expectGives(t, streams.Of().From(""))
	all := edgy()
	for i, w := range all {
		expectGives(t, streams.Of(all...).From(w), all[i:]...)
		expectGives(t, streams.Of(all...).From(w+"\x00\x00"), slices.DeleteFunc(slices.Clone(all), func(x string) bool { return x < w+"\x00\x00" })...)
	}
}

func TestOfTextsThatAreOneAnothersBeginning(t *testing.T) { // P8.3
	all := edgy()
	var even, odd []string
	for i, w := range all {
		if i%2 == 0 {
			even = append(even, w)
		} else {
			odd = append(odd, w)
		}
	}
	s, e, o := streams.Of(all...), streams.Of(even...), streams.Of(odd...)
	expectGives(t, streams.Union(e, o), all...)
	expectGives(t, s.Minus(e), odd...)
	expectGives(t, s.Minus(o), even...)
	expectGives(t, s.Common(e), even...)
	expectGives(t, o.Common(s), odd...)
	expectGives(t, e.Common(o))
	expectGives(t, e.Minus(o), even...)
}
