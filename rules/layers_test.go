package rules_test

import (
	"math"
	"slices"
	"strings"
	"sync"
	"testing"

	"hornbook/api"
	"hornbook/rules"
)

// What the document says of all layers, held at this one.

func TestNoCallPanics(t *testing.T) { // P1, rules 5 and 6
	texts := []string{"", ".", "[", "]", "[^", "[]", "a", "ab", "[^a]b", "\x00", "\xff", every(), strings.Repeat(".", api.MaxItems), strings.Repeat(".", api.MaxItems+1), long(api.MaxPattern), long(api.MaxPattern + 1), long(99999)}
	for _, kind := range []int{math.MinInt, -1, 0, 1, 2, 3, math.MaxInt} {
		for _, strip := range texts {
			for _, add := range texts {
				for _, cond := range texts {
					r := api.Rule{Kind: kind, Strip: strip, Add: add, Cond: cond, Next: []api.Flag{0, 65535}}
					for _, word := range texts {
						rules.Fits(r, word)
						rules.Apply(r, word)
						rules.Undo(r, word)
					}
					rules.Chain("ab", r, r)
					rules.Peel("ab", r, r)
				}
			}
		}
	}
	rules.Chain("")
	rules.Peel("")
	rules.Chain("", nil...)
	rules.Peel("", nil...)
	rules.Chain("a", make([]api.Rule, 9999)...)
	rules.Peel("a", make([]api.Rule, 9999)...)
}

// written: the rules of a chain, each with a list that has memory behind its length.
func written() []api.Rule {
	list := make([]api.Rule, 0, 8)
	for i, r := range []api.Rule{ing, re, suffix("ing", "ed", "."), prefix("", "un", "[^u]")} {
		r.Flag, r.Cross = api.Flag(i), i%2 == 0
		r.Next = append(make([]api.Flag, 0, 4), api.Flag(9+i), 7)
		list = append(list, r)
	}
	return list
}

// behind: the whole memory of the rules and of their lists, also what lies behind their length.
func behind(list []api.Rule) (all []api.Rule) {
	for _, r := range list[:cap(list)] {
		r.Next = slices.Clone(r.Next[:cap(r.Next)])
		all = append(all, r)
	}
	return all
}

func sameRule(a, b api.Rule) bool {
	return a.Kind == b.Kind && a.Flag == b.Flag && a.Cross == b.Cross &&
		a.Strip == b.Strip && a.Add == b.Add && a.Cond == b.Cond && slices.Equal(a.Next, b.Next)
}

// askAll asks all calls of these rules; what they make is answered.
func askAll(list []api.Rule) []string {
	var answers []string
	for _, word := range []string{"do", "", "redoing", "unredoed", "unredoing", "x"} {
		made, _ := rules.Chain(word, list...)
		peeled, _ := rules.Peel(word, list...)
		answers = append(answers, made, peeled)
		for _, r := range list {
			applied, _ := rules.Apply(r, word)
			undone, _ := rules.Undo(r, word)
			answers = append(answers, applied, undone)
			if rules.Fits(r, word) {
				answers = append(answers, "fits")
			}
		}
	}
	return answers
}

func TestWhatIsHandedInIsNotChanged(t *testing.T) { // rule 4
	list := written()
	want := behind(list)
	first := askAll(list)
	if got := behind(list); !slices.EqualFunc(got, want, sameRule) {
		t.Errorf("%v became %v", want, got)
	}
	if first[0] != "unredoed" {
		t.Errorf("Chain makes %q", first[0])
	}
}

func TestWhatLiesBehindTheListIsNotRead(t *testing.T) { // rule 4
	list := written()
	full := append(list, ies, suffix("", "", "["))
	expectChain(t, "do", "unredoed", full[:4]...)
	expectChain(t, "do", "redoing", full[:2]...)
	expectChain(t, "do", "do", full[:0]...)
	expectNoChain(t, "do", full...)
}

func TestWhatIsHandedInIsNotKept(t *testing.T) { // rules 4 and 8
	list := written()
	want := askAll(list)
	clear(list[:cap(list)])
	if got := askAll(written()); !slices.Equal(got, want) {
		t.Errorf("%q became %q", want, got)
	}
	// The same list with other rules in it is another one.
	list[0], list[1] = ies, re
	expectNoChain(t, "do", list[:2]...)
	list[0] = ing
	expectChain(t, "do", "redoing", list[:2]...)
	list[0].Cond = "["
	expectNoChain(t, "do", list[:2]...)
}

func TestNothingIsKeptBetweenCalls(t *testing.T) { // rules 3 and 8
	want := askAll(written())
	for range 3 {
		rules.Apply(suffix("o", "y", "d."), "do")
		rules.Apply(suffix("", "", "["), "do")
		rules.Peel("flies", ies)
		if got := askAll(written()); !slices.Equal(got, want) {
			t.Fatalf("%q became %q", want, got)
		}
	}
}

func TestCallsAtTheSameTime(t *testing.T) { // P2
	shared := written()
	want := askAll(shared)
	var wait sync.WaitGroup
	got := make([][]string, 16)
	for i := range got {
		wait.Go(func() { got[i] = askAll(shared) })
	}
	wait.Wait()
	for i, answers := range got {
		if !slices.Equal(answers, want) {
			t.Errorf("call %d: %q; want %q", i, answers, want)
		}
	}
}
