package rules_test

import (
	"strings"
	"testing"

	"hornbook/api"
)

func TestTheExamplesOfChains(t *testing.T) { // P15.4, P15.5
	expectChain(t, "do", "redoing", re, ing)
}

func TestNoRules(t *testing.T) { // P15.4, P15.5
	for _, word := range []string{"", "a", "do", "\x00", every(), long(1 << 20)} {
		expectChain(t, word, word)
		expectChain(t, word, word, []api.Rule{}...)
	}
}

func TestOneRule(t *testing.T) { // P15.4, P15.5
	expectChain(t, "fly", "flies", ies)
	expectChain(t, "do", "redo", re)
	expectNoChain(t, "day", ies)
	expectNoPeel(t, "daies", ies)
	expectNoPeel(t, "fly", ies)
	expectNoChain(t, "", ing)
	expectNoPeel(t, "", ing)
	expectNoPeel(t, "ing", ing)
}

func TestSeveralRules(t *testing.T) { // P15.4, P15.5
	er, s, un := suffix("", "er", "."), suffix("", "s", "[^sy]"), prefix("", "un", ".")
	expectChain(t, "play", "unplayers", er, s, un)
	expectChain(t, "play", "unplayers", un, er, s)
	expectChain(t, "play", "unplayers", er, un, s)
	expectChain(t, "play", "ununplayererer", er, un, er, un, er)
	expectChain(t, "fly", "reflies", ies, prefix("", "re", "f"))
	// Their order counts.
	a, b := suffix("", "a", "."), suffix("", "b", ".")
	expectChain(t, "x", "xab", a, b)
	expectChain(t, "x", "xba", b, a)
	expectNoPeel(t, "xab", b, a)
	expectChain(t, "x", "xaab", a, a, b)
	expectNoPeel(t, "xab", a, a, b)
	expectChain(t, "xa", "xaab", a, b)
	// A letter is stripped that was there already, and one that the rule ahead put there.
	expectChain(t, "xy", "x", a, suffix("ya", "", "."))
	expectChain(t, "xy", "xb", suffix("y", "a", "."), suffix("a", "b", "."))
	expectChain(t, "xy", "bxa", suffix("y", "a", "."), prefix("", "b", "x"))
}

func TestARuleThatFitsOnlyWhatTheOneAheadMade(t *testing.T) { // P15.4, P15.5
	er, ers := suffix("", "er", "[^r]"), suffix("", "s", "er")
	expectNoChain(t, "play", ers)
	expectChain(t, "play", "players", er, ers)
	expectNoChain(t, "play", ers, er)
	expectNoPeel(t, "players", ers, er)
	expectNoPeel(t, "plays", er, ers)
	// Of a word of one letter there is something left only behind the first one.
	expectNoChain(t, "y", suffix("y", "z", "."))
	expectChain(t, "y", "ay", prefix("", "ab", "."), suffix("by", "y", "."))
	expectNoChain(t, "y", suffix("by", "y", "."), prefix("", "ab", "."))
	// Its pattern meets what the one ahead put at the other end.
	expectNoChain(t, "x", suffix("", "s", "a."))
	expectChain(t, "x", "axs", prefix("", "a", "."), suffix("", "s", "a."))
}

func TestARuleThatDoesNotFitAnyMore(t *testing.T) { // P15.4, P15.5
	expectMade(t, ies, "fly", "flies")
	expectNoChain(t, "fly", ies, ies)
	expectNoChain(t, "do", ing, ies)
	expectNoChain(t, "do", re, re)
	expectNoPeel(t, "reredo", re, re)
	expectNoPeel(t, "redoing", re, re, ing)
	first := suffix("", "a", "[^a]")
	expectMade(t, first, "b", "ba")
	expectNoChain(t, "b", first, first)
	expectNoPeel(t, "baa", first, first)
	// Where one of several doesn't fit there is nothing, wherever it stands.
	none := suffix("", "", "[")
	for i := range 5 {
		list := []api.Rule{ing, ing, ing, ing}
		list = append(list[:i:i], append([]api.Rule{none}, list[i:]...)...)
		expectNoChain(t, "do", list...)
		expectNoPeel(t, "do"+strings.Repeat("ing", 4), list...)
	}
	expectNoChain(t, "do", none, none)
	expectNoPeel(t, "do", none, none)
	expectNoChain(t, "do", ing, api.Rule{Kind: 3, Cond: "."}, ing)
	expectNoPeel(t, "doinging", ing, api.Rule{Kind: 3, Cond: "."}, ing)
}

func TestPeelAsksEachRuleForTheWordAhead(t *testing.T) { // P15.5
	// What is peeled off may be of the right look, and yet no rule makes it so.
	a, b := suffix("", "a", "x"), suffix("", "b", ".")
	expectChain(t, "x", "xab", a, b)
	expectNoPeel(t, "yab", a, b)
	expectNoPeel(t, "ab", a, b)
	expectNoPeel(t, "xaab", a, b)
	expectNoPeel(t, "b", b)
	expectNoPeel(t, "bb", b, b)
	expectChain(t, "b", "bbb", b, b)
}

func TestManyRules(t *testing.T) { // P15.4, P15.5
	const count = 10000
	list := make([]api.Rule, 0, 2*count)
	for i := range count {
		list = append(list, suffix("", string([]byte{byte(i)}), "."), prefix("", string([]byte{byte(i)}), "."))
	}
	made := []byte("x")
	for i := range count {
		made = append(made, byte(i))
	}
	var front []byte
	for i := range count {
		front = append(front, byte(count-1-i))
	}
	expectChain(t, "x", string(front)+string(made), list...)
	expectNoPeel(t, string(front)+string(made[1:]), list...)
	expectNoChain(t, "x", append(list, ies)...)
	expectNoChain(t, "x", append([]api.Rule{ies}, list...)...)
	// What is put on is taken off again, as often as one likes.
	var turns []api.Rule
	for range count {
		turns = append(turns, suffix("", "ab", "."), suffix("ab", "", "."))
	}
	expectChain(t, "x", "x", turns...)
}
