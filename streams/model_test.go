package streams_test

import (
	"slices"
	"testing"

	"hornbook/record"
	"hornbook/runs"
	"hornbook/streams"
)

// Here streams are held against a plain second writing of the chapter's words:
// a set of texts, of which each question looks at all.

type model map[string]struct{}

func modelOf(words ...string) model {
	m := model{}
	for _, w := range words {
		m[w] = struct{}{}
	}
	return m
}

func (m model) has(w string) bool {
	_, ok := m[w]
	return ok
}

// rising: its texts, each time the least that is above all that came already.
func (m model) rising() []string {
	var list []string
	for len(list) < len(m) {
		least, some := "", false
		for w := range m {
			above := len(list) == 0 || w > list[len(list)-1]
			if above && (!some || w < least) {
				least, some = w, true
			}
		}
		list = append(list, least)
	}
	return list
}

func (m model) picked(is func(w string) bool) model {
	picked := model{}
	for w := range m {
		if is(w) {
			picked[w] = struct{}{}
		}
	}
	return picked
}

func unionOf(ms ...model) model {
	all := model{}
	for _, m := range ms {
		for w := range m {
			all[w] = struct{}{}
		}
	}
	return all
}

// both is a stream and its model.
type both struct {
	s streams.Stream
	m model
}

func (b both) minus(c both) both {
	return both{b.s.Minus(c.s), b.m.picked(func(w string) bool { return !c.m.has(w) })}
}

func (b both) common(c both) both {
	return both{b.s.Common(c.s), b.m.picked(c.m.has)}
}

func (b both) from(w string) both {
	return both{b.s.From(w), b.m.picked(func(x string) bool { return x >= w })}
}

func union(bs ...both) both {
	var ss []streams.Stream
	var ms []model
	for _, b := range bs {
		ss = append(ss, b.s)
		ms = append(ms, b.m)
	}
	return both{streams.Union(ss...), unionOf(ms...)}
}

func (b both) expect(t *testing.T) {
	t.Helper()
	expectGives(t, b.s, b.m.rising()...)
}

// subsets: a stream of each choice of these texts.
func subsets(texts ...string) []both {
	var list []both
	for bits := range 1 << len(texts) {
		var words []string
		for i, w := range texts {
			if bits>>i&1 == 1 {
				words = append(words, w)
			}
		}
		list = append(list, both{streams.Of(words...), modelOf(words...)})
	}
	return list
}

func TestAllPairsOfFewTexts(t *testing.T) { // P8.1 to P8.3
	texts := []string{"b", "", "a\x80", "a", "\xff"}
	all := subsets(texts...)
	for _, a := range all {
		a.expect(t)
		for _, w := range append(probes(texts), texts...) {
			a.from(w).expect(t)
		}
		for _, b := range all {
			a.minus(b).expect(t)
			a.common(b).expect(t)
			union(a, b).expect(t)
			if t.Failed() {
				t.Fatalf("of %q and %q", a.m.rising(), b.m.rising())
			}
		}
	}
}

func TestAllThreesOfFewTexts(t *testing.T) { // P8.3
	all := subsets("a", "", "ab")
	for _, a := range all {
		for _, b := range all {
			for _, c := range all {
				union(a, b, c).expect(t)
				union(a, union(b, c)).expect(t)
				a.minus(b).minus(c).expect(t)
				a.minus(b.minus(c)).expect(t)
				a.common(b).minus(c).expect(t)
				union(a, b).common(c).expect(t)
			}
		}
	}
}

// grow: a stream of chance, with parts nested in it.
func grow(t *testing.T, store *runs.Store, next func(int) int, texts []string, depth int) both {
	t.Helper()
	if depth == 0 {
		return leaf(t, store, next, texts)
	}
	part := func() both { return grow(t, store, next, texts, next(depth)) }
	switch next(6) {
	case 0:
		return part().minus(part())
	case 1:
		return part().common(part())
	case 2:
		return part().from(texts[next(len(texts))])
	case 3:
		same := part()
		return union(same, part(), same)
	default:
		parts := make([]both, next(5))
		for i := range parts {
			parts[i] = part()
		}
		return union(parts...)
	}
}

func leaf(t *testing.T, store *runs.Store, next func(int) int, texts []string) both {
	t.Helper()
	words := make([]string, next(2*len(texts)))
	for i := range words {
		words[i] = texts[next(len(texts))]
	}
	switch next(4) {
	case 0:
		return both{}
	case 1:
		// A run of records, some of which may be alike or fall.
		if next(3) > 0 {
			slices.Sort(words)
		}
		rising := 0
		for rising < len(words) && (rising == 0 || words[rising] > words[rising-1]) {
			rising++
		}
		return both{recordsOf(t, store, written(t, store, words...)), modelOf(words[:rising]...)}
	default:
		return both{streams.Of(words...), modelOf(words...)}
	}
}

func TestNestedStreamsAgainstTheModel(t *testing.T) { // P8.1 to P8.4
	texts := append(edgy(), long(200), long(255))
	for seed := range 3000 {
		next := randoms(seed)
		store := runs.New(1 << 20)
		b := grow(t, store, next, texts, 1+next(4))
		b.expect(t)
		if t.Failed() {
			t.Fatalf("stream %d", seed)
		}
	}
}

// allTexts: all texts of these bytes, of at most that many.
func allTexts(bytes string, most int) []string {
	list := []string{""}
	for from := 0; most > 0; most-- {
		to := len(list)
		for _, w := range list[from:to] {
			for i := range len(bytes) {
				list = append(list, w+bytes[i:i+1])
			}
		}
		from = to
	}
	return list
}

func TestRecordsOfAllShortRuns(t *testing.T) { // P8.4: up to the first fault, or the first that doesn't rise
	for _, text := range allTexts("\x00\x01\x02ab\x80", 5) {
		var want []string
		for n := 0; n <= len(text); n++ {
			// The longest beginning that is whole records tells those ahead of the fault.
			if recs, e := record.Unframe(text[:n]); e == 0 {
				want = recs
			}
		}
		for i := 1; i < len(want); i++ {
			if want[i] <= want[i-1] {
				want = want[:i]
			}
		}
		s := runs.New(len(text))
		r := recordsOf(t, s, sealed(t, s, text))
		if got := r.List(99); !slices.Equal(got, want) || r.Count() != len(want) {
			t.Fatalf("a run of %q gives %q; want %q", text, got, want)
		}
	}
}
