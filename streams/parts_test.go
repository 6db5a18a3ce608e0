package streams_test

import (
	"math"
	"slices"
	"testing"

	"hornbook/streams"
)

// part is a stream that counts its walks, and the texts that they give.
type part struct {
	words         []string
	walks, givens int
}

func (p *part) stream() streams.Stream {
	return streams.Made(func(yield func(string) bool) {
		p.walks++
		for _, w := range p.words {
			p.givens++
			if !yield(w) {
				return
			}
		}
	})
}

// standing is a stream with how often the parts p and q stand in it.
type standing struct {
	name       string
	s          streams.Stream
	ofP, ofQ   int
	wantsWords []string
}

// standings: streams that are made of p ("a", "b", "c") and q ("b", "d").
func standings(p, q streams.Stream) []standing {
	u := streams.Union(p, q)
	return []standing{
		{"From", p.From("b"), 1, 0, []string{"b", "c"}},
		{"From of From", p.From("a").From("c"), 1, 0, []string{"c"}},
		{"Minus", p.Minus(q), 1, 1, []string{"a", "c"}},
		{"Minus of itself", p.Minus(p), 2, 0, nil},
		{"Common", p.Common(q), 1, 1, []string{"b"}},
		{"Common of itself", p.Common(p), 2, 0, []string{"a", "b", "c"}},
		{"Union of one", streams.Union(p), 1, 0, []string{"a", "b", "c"}},
		{"Union", u, 1, 1, []string{"a", "b", "c", "d"}},
		{"Union of itself", streams.Union(p, q, p, p), 3, 1, []string{"a", "b", "c", "d"}},
		{"Union of a union", streams.Union(u, q, u), 2, 3, []string{"a", "b", "c", "d"}},
		{"Minus of a union", u.Minus(q).Minus(p.From("b")), 2, 2, []string{"a"}},
		{"Common of unions", u.Common(streams.Union(q, q)), 1, 3, []string{"b", "d"}},
		{"of all", streams.Union(u.Minus(q), p.Common(u)).From("b"), 3, 3, []string{"b", "c"}},
	}
}

// askings: all ways to go over a stream.
func askings() map[string]func(s streams.Stream) {
	return map[string]func(s streams.Stream){
		"All": func(s streams.Stream) {
			for range s.All() {
			}
		},
		"All, left at the first": func(s streams.Stream) {
			for range s.All() {
				break
			}
		},
		"All, left at b": func(s streams.Stream) {
			for w := range s.All() {
				if w == "b" {
					break
				}
			}
		},
		"List of 0":      func(s streams.Stream) { s.List(0) },
		"List of 1":      func(s streams.Stream) { s.List(1) },
		"List of 2":      func(s streams.Stream) { s.List(2) },
		"List of all":    func(s streams.Stream) { s.List(math.MaxInt) },
		"Count":          func(s streams.Stream) { s.Count() },
		"Has, ahead":     func(s streams.Stream) { s.Has("") },
		"Has, there":     func(s streams.Stream) { s.Has("b") },
		"Has, behind":    func(s streams.Stream) { s.Has("z") },
		"Has, between 2": func(s streams.Stream) { s.Has("bb") },
	}
}

func TestPartsAreGoneOverAtMostOnceEachTimeTheyStand(t *testing.T) { // P8.5
	for name, ask := range askings() {
		p, q := &part{words: []string{"a", "b", "c"}}, &part{words: []string{"b", "d"}}
		for _, x := range standings(p.stream(), q.stream()) {
			for range 3 {
				p.walks, q.walks = 0, 0
				ask(x.s)
				if p.walks > x.ofP || q.walks > x.ofQ {
					t.Errorf("%s, %s: %d and %d walks; they stand %d and %d times", x.name, name, p.walks, q.walks, x.ofP, x.ofQ)
				}
			}
		}
	}
}

func TestMakingAStreamGoesOverNothing(t *testing.T) { // P8.5, and the chapter's first words
	p, q := &part{words: []string{"a", "b", "c"}}, &part{words: []string{"b", "d"}}
	for _, x := range standings(p.stream(), q.stream()) {
		x.s.All()
	}
	if p.walks != 0 || q.walks != 0 {
		t.Errorf("%d and %d walks", p.walks, q.walks)
	}
}

func TestPartsAreAsBefore(t *testing.T) { // P8.5
	p, q := streams.Of("a", "b", "c"), streams.Of("b", "d")
	for _, x := range standings(p, q) {
		for w := range x.s.All() {
			// Also while a walk is under way.
			if !slices.Equal(p.List(9), []string{"a", "b", "c"}) || !slices.Equal(q.List(9), []string{"b", "d"}) {
				t.Errorf("%s, at %q: %q, %q", x.name, w, p.List(9), q.List(9))
			}
		}
		for _, ask := range askings() {
			ask(x.s)
		}
		expectGives(t, x.s, x.wantsWords...)
		expectGives(t, p, "a", "b", "c")
		expectGives(t, q, "b", "d")
	}
}

func TestEachWalkIsOneWalkOfTheStreamItself(t *testing.T) { // P8.5
	for name, ask := range askings() {
		p := &part{words: []string{"a", "b", "c"}}
		ask(p.stream())
		if p.walks > 1 {
			t.Errorf("%s: %d walks", name, p.walks)
		}
	}
}

func TestNoMoreTextsAreAskedForThanTold(t *testing.T) { // the chapter's first words: one text at a time
	cases := []struct {
		name string
		ask  func(s streams.Stream)
		want int
	}{
		{"List(0)", func(s streams.Stream) { s.List(0) }, 0},
		{"List(1)", func(s streams.Stream) { s.List(1) }, 1},
		{"List(3)", func(s streams.Stream) { s.List(3) }, 3},
		{"Has of the first", func(s streams.Stream) { s.Has("a") }, 1},
		{"Has of what is ahead", func(s streams.Stream) { s.Has("") }, 1},
		{"Has of what is between", func(s streams.Stream) { s.Has("bb") }, 3},
		{"From, List(2)", func(s streams.Stream) { s.From("b").List(2) }, 3},
		{"Minus, List(2)", func(s streams.Stream) { s.Minus(streams.Of("b", "e")).List(2) }, 3},
		{"Common, List(1)", func(s streams.Stream) { s.Common(streams.Of("b", "e")).List(1) }, 2},
	}
	for _, c := range cases {
		p := &part{words: []string{"a", "b", "c", "d", "e"}}
		c.ask(p.stream())
		if p.givens != c.want {
			t.Errorf("%s: %d texts; want %d", c.name, p.givens, c.want)
		}
	}
}
