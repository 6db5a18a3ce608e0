package cond_test

import (
	"math"
	"strings"
	"sync"
	"testing"

	"hornbook/api"
	"hornbook/cond"
)

// What the document says of all layers, held at this one.

func TestNoCallPanics(t *testing.T) { // P1, rules 5 and 6
	texts := []string{
		"", ".", "[", "]", "^", "[^", "[]", "[^]", "[]a]", "\x00", "\xff", "a", "ab", "[ab]", "[^ab]", every(),
		strings.Repeat(every(), 300), strings.Repeat("[", 99999), strings.Repeat(".", 99999), strings.Repeat("[a]", api.MaxItems), strings.Repeat("a", api.MaxPattern),
	}
	ps := []cond.Pattern{{}}
	for _, s := range texts {
		p, _ := cond.Read(s)
		ps = append(ps, p)
	}
	for _, p := range ps {
		p.Len()
		p.Show()
		for _, i := range []int{math.MinInt, -1, 0, 1, 15, 16, 17, math.MaxInt} {
			p.Admits(i, 0)
			p.Admits(i, 255)
		}
		for _, w := range texts {
			p.Starts(w)
			p.Ends(w)
		}
		for _, q := range ps {
			p.Equal(q)
			cond.Join(p, q)
		}
	}
	cond.Join()
	cond.Join(ps...)
}

// told: all that can be asked of a pattern by itself.
func told(p cond.Pattern) string {
	var text strings.Builder
	text.WriteString(p.Show())
	for i := range api.MaxItems + 1 {
		for b := range 256 {
			if p.Admits(i, byte(b)) {
				text.WriteByte(byte(b))
			}
		}
		text.WriteByte(byte(p.Len()))
	}
	return text.String()
}

func TestNothingDoneWithAPatternChangesAnother(t *testing.T) { // P2, section 'Functions'
	for _, s := range []string{".", "..", "a", "[^aeiou]y", "[ab].[^c]", strings.Repeat("[ab]", api.MaxItems)} {
		p := read(t, s)
		want := told(p)
		kept := p
		list := []cond.Pattern{p, p}
		useUp(p)
		useUp(list[0])
		other := read(t, "x[^y]")
		p, _ = cond.Join(other, other)
		list[0] = other
		if told(kept) != want || told(list[1]) != want || told(read(t, s)) != want {
			t.Errorf("a copy of %q became %q", s, kept.Show())
		}
		if told(p) != told(read(t, "x[^y]x[^y]")) || told(list[0]) != told(other) {
			t.Errorf("what took the place of %q is %q", s, p.Show())
		}
	}
}

// useUp does with p whatever can be done with it.
func useUp(p cond.Pattern) {
	p.Len()
	p.Admits(0, 'a')
	p.Starts("ab")
	p.Ends("ab")
	p.Show()
	p.Equal(cond.Pattern{})
	other, _ := cond.Read("z[^z]")
	cond.Join(p, other)
	cond.Join(other, p)
	cond.Join(p, p, p, p)
}

func TestJoinLeavesWhatIsHandedIn(t *testing.T) { // P4.6, rule 4
	behind := read(t, "z")
	for _, texts := range [][]string{{"a", ".", "[bc]"}, {".", "a"}, {"a", strings.Repeat("b", api.MaxItems)}} {
		// Behind the list's length lies what no call may read or write.
		list := append(readAll(t, texts...), behind, behind)
		first, e := cond.Join(list[:len(texts)]...)
		want := told(first)
		for i, s := range texts {
			if told(list[i]) != told(read(t, s)) {
				t.Errorf("Join(%q) made %q of item %d", texts, list[i].Show(), i)
			}
		}
		for _, p := range list[len(texts):] {
			if told(p) != told(behind) {
				t.Errorf("Join(%q) wrote behind the list", texts)
			}
		}
		clear(list)
		if told(first) != want {
			t.Errorf("Join(%q) keeps the list", texts)
		}
		if again, code := cond.Join(readAll(t, texts...)...); told(again) != want || code != e {
			t.Errorf("Join(%q) asked again: %q, %d", texts, again.Show(), code)
		}
	}
}

func TestNothingIsKeptBetweenCalls(t *testing.T) { // rules 3 and 8, P2
	ask := func() string {
		p := read(t, "[^aeiou]y")
		q, _ := cond.Join(p, read(t, "[ba]"))
		return p.Show() + " " + q.Show()
	}
	const want = "[^aeiou]y [^aeiou]y[ab]"
	if got := ask(); got != want {
		t.Fatalf("%q", got)
	}
	cond.Read("[^aeiou]y[")
	cond.Read(strings.Repeat("x", api.MaxItems+1))
	cond.Join(read(t, strings.Repeat("x", api.MaxItems)), read(t, "y"))
	if got := ask(); got != want {
		t.Errorf("%q became %q", want, got)
	}
}

func TestCallsAtTheSameTime(t *testing.T) { // P2
	var wait sync.WaitGroup
	shared := read(t, "[ab]")
	got := make([]string, 16)
	for i := range got {
		wait.Go(func() {
			p, _ := cond.Read([]string{"[^x]", "y."}[i%2])
			q, _ := cond.Join(shared, p)
			got[i] = q.Show()
		})
	}
	wait.Wait()
	for i, s := range got {
		if want := []string{"[ab][^x]", "[ab]y."}[i%2]; s != want {
			t.Errorf("call %d: %q", i, s)
		}
	}
}
