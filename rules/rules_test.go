package rules_test

import (
	"math"
	"strings"
	"testing"

	"hornbook/aff"
	"hornbook/api"
	"hornbook/rules"
)

// The chapter's rules.
var (
	ies = suffix("y", "ies", "[^aeiou]y")
	re  = prefix("", "re", "d")
	ing = suffix("", "ing", ".")
)

func TestTheExamples(t *testing.T) { // P15.1 to P15.3
	expectMade(t, ies, "fly", "flies")
	expectNoFit(t, ies, "day", "y")
	expectNotMade(t, ies, "daies")
	expectMade(t, re, "do", "redo")
}

func TestOrdinaryRules(t *testing.T) { // P15.1 to P15.3
	for _, c := range []struct {
		r          api.Rule
		word, want string
	}{
		{suffix("", "s", "[^sy]"), "cat", "cats"},
		{suffix("", "s", "."), "s", "ss"},
		{suffix("", "s", "s"), "s", "ss"},
		{suffix("e", "ing", "e"), "make", "making"},
		{suffix("e", "ing", "[^e]e"), "make", "making"},
		{suffix("ex", "ices", "."), "index", "indices"},
		{suffix("ex", "ex", "."), "index", "index"},
		{suffix("a", "aa", "."), "aa", "aaa"},
		{suffix("aa", "a", "."), "aaa", "aa"},
		{prefix("", "un", "."), "play", "unplay"},
		{prefix("a", "", "a"), "about", "bout"},
		{prefix("ab", "cd", "ab."), "abc", "cdc"},
		{prefix("a", "aa", "."), "aa", "aaa"},
		{prefix("aa", "a", "."), "aaa", "aa"},
		{prefix("x", "y", "x[^x]"), "xa", "ya"},
	} {
		expectMade(t, c.r, c.word, c.want)
	}
}

func TestTheRulesOfAFile(t *testing.T) { // P15.1 to P15.5
	file, fault := aff.Read("NEEDAFFIX N\nSFX S Y 2\nSFX S 0 s [^sy]\nSFX S y ies [^aeiou]y\nSFX E N 1\nSFX E 0 er/SN\nPFX U Y 1\nPFX U 0 un .\n")
	if fault != (api.Fault{}) {
		t.Fatal(fault)
	}
	list := file.Affixes().Rules
	s, ies, er, un := list[0], list[1], list[2], list[3]
	expectMade(t, s, "cat", "cats")
	expectMade(t, ies, "fly", "flies")
	expectNoFit(t, s, "fly", "play", "gas")
	expectNoFit(t, ies, "play", "cat")
	expectChain(t, "play", "unplayers", er, s, un)
	expectNoChain(t, "play", s, er, un)
	expectNoPeel(t, "unplayers", s, er, un)
}

func TestARuleFitsOnlyLongerWordsThanStrip(t *testing.T) { // P15.1
	expectNoFit(t, suffix("fly", "x", "."), "", "f", "y", "ly", "fl", "fly")
	expectNoFit(t, prefix("fly", "x", "."), "", "f", "y", "ly", "fl", "fly")
	expectMade(t, suffix("fly", "x", "."), "afly", "ax")
	expectMade(t, prefix("fly", "x", "."), "flya", "xa")
	for n := range 40 {
		// As long as Strip, a byte longer, a byte shorter; of a Strip of no byte, the empty word is as long.
		expectNoFit(t, suffix(long(n), "s", "."), long(n), long(n)[:max(n-1, 0)])
		expectNoFit(t, prefix(long(n), "s", "."), long(n), long(n)[:max(n-1, 0)])
		expectMade(t, suffix(long(n), "s", "."), long(n+1), "xs")
		expectMade(t, prefix(long(n), "s", "."), long(n+1), "sx")
		expectMade(t, suffix(long(n), "", "."), "a"+long(n), "a")
		expectMade(t, prefix(long(n), "", "."), long(n)+"a", "a")
	}
}

func TestTheEmptyWord(t *testing.T) { // P15.1 to P15.3
	for _, cond := range []string{".", "a", "[^a]", "..", ""} {
		for _, piece := range []string{"", "a", "ab"} {
			for _, other := range []string{"", "a", "ab"} {
				for _, r := range []api.Rule{suffix(piece, other, cond), prefix(piece, other, cond)} {
					expectNoFit(t, r, "")
					expectNotMade(t, r, "")
				}
			}
		}
	}
}

func TestEmptyPieces(t *testing.T) { // P15.1 to P15.3
	// Nothing is stripped.
	expectMade(t, suffix("", "s", "."), "a", "as")
	expectMade(t, prefix("", "s", "."), "a", "sa")
	// Nothing is added.
	expectMade(t, suffix("s", "", "."), "as", "a")
	expectMade(t, prefix("s", "", "."), "sa", "a")
	expectMade(t, suffix("s", "", "."), "ss", "s")
	expectMade(t, prefix("s", "", "."), "ss", "s")
	// Neither: the word stays what it is.
	for _, word := range []string{"a", "ab", "\x00", long(99)} {
		expectMade(t, suffix("", "", "."), word, word)
		expectMade(t, prefix("", "", "."), word, word)
	}
	expectMade(t, suffix("", "", "[^a]"), "ab", "ab")
	expectNotMade(t, suffix("", "", "[^b]"), "ab")
	expectMade(t, prefix("", "", "[^b]"), "ab", "ab")
	expectNotMade(t, prefix("", "", "[^a]"), "ab")
}

func TestTheWordHasStripAtTheRulesSide(t *testing.T) { // P15.1
	expectNoFit(t, suffix("y", "ies", "."), "flx", "yfl", "flY", "fyl", "fl\xf9")
	expectNoFit(t, prefix("y", "ies", "."), "xfl", "fly", "Yfl", "fyl")
	expectNoFit(t, suffix("ab", "", "."), "xba", "xa", "xb", "abx", "xaab_", "aba")
	expectNoFit(t, prefix("ab", "", "."), "bax", "ax", "bx", "xab", "bab")
	expectMade(t, suffix("ab", "", "."), "abab", "ab")
	expectMade(t, prefix("ab", "", "."), "abab", "ab")
	// Each byte of Strip counts.
	strip := "abcdefgh"
	for i := range strip {
		other := strip[:i] + "z" + strip[i+1:]
		expectNoFit(t, suffix(strip, "x", "."), "_"+other)
		expectNoFit(t, prefix(strip, "x", "."), other+"_")
	}
}

func TestThePatternLooksAtTheRulesSide(t *testing.T) { // P15.1
	// Strip is there, and the pattern doesn't admit the word's end or beginning.
	expectNoFit(t, suffix("y", "ies", "[^aeiou]y"), "day", "ay", "flay")
	expectNoFit(t, suffix("y", "ies", "x"), "fly", "xfly", "xxy")
	expectNoFit(t, prefix("a", "b", "a[^b]"), "ab", "abc", "abac")
	expectNoFit(t, prefix("a", "b", "x"), "ax", "axx")
	// The whole word is looked at, Strip too; and it isn't what the rule makes.
	expectMade(t, suffix("y", "ies", "ly"), "fly", "flies")
	expectMade(t, prefix("a", "b", "ac"), "ac", "bc")
	expectNoFit(t, suffix("y", "x", "[^y]"), "fly")
	expectNoFit(t, suffix("y", "", "l"), "fly")
	expectNoFit(t, prefix("y", "", "l"), "yl")
	expectNoFit(t, suffix("", "s", "s"), "cat")
	expectNoFit(t, prefix("", "s", "s"), "cat")
	// The other side doesn't count.
	expectMade(t, suffix("", "s", "[^a]"), "ab", "abs")
	expectMade(t, prefix("", "s", "[^b]"), "ab", "sab")
	expectNoFit(t, suffix("", "s", "[^b]"), "ab")
	expectNoFit(t, prefix("", "s", "[^a]"), "ab")
	expectMade(t, suffix("", "s", "ab"), "bab", "babs")
	expectNoFit(t, prefix("", "s", "ab"), "bab")
}

func TestAPatternThatLooksAtMoreThanStrip(t *testing.T) { // P15.1
	three := suffix("y", "i", "b[ab]y")
	expectMade(t, three, "bay", "bai")
	expectMade(t, three, "xbby", "xbbi")
	expectNoFit(t, three, "ay", "by", "xay", "aay", "ba", "bya")
	expectNotMade(t, three, "ai", "i", "bi", "xai", "bay")
	front := prefix("y", "i", "y[ab]b")
	expectMade(t, front, "yab", "iab")
	expectMade(t, front, "ybbx", "ibbx")
	expectNoFit(t, front, "ya", "yb", "yax", "yaa", "ab", "ayb")
	expectNotMade(t, front, "ia", "i", "ib", "iax", "yab")
	// A word is long enough for Strip, and not for the pattern.
	expectNoFit(t, suffix("", "s", ".."), "a")
	expectNoFit(t, prefix("", "s", ".."), "a")
	expectMade(t, suffix("", "s", ".."), "ab", "abs")
	expectMade(t, prefix("", "s", ".."), "ab", "sab")
}

func TestKindsThatAreNone(t *testing.T) { // P15.1 to P15.3
	for _, kind := range []int{0, -1, -2, 3, 4, 255, 256, 257, 258, 65537, 1<<32 + 1, 1<<32 + 2, math.MinInt, math.MinInt + 1, math.MaxInt} {
		for _, r := range []api.Rule{{Kind: kind, Cond: "."}, {Kind: kind, Strip: "a", Cond: "."}, {Kind: kind, Add: "a", Cond: "a"}, {Kind: kind, Strip: "a", Add: "a", Cond: "."}} {
			expectNoFit(t, r, "", "a", "aa", "aaa", "ab", "ba")
			expectNotMade(t, r, "", "a", "aa", "aaa", "ab", "ba")
			expectNoChain(t, "aa", r)
			expectNoPeel(t, "aa", r)
		}
	}
	expectNoFit(t, api.Rule{}, "", "a")
	expectNotMade(t, api.Rule{}, "", "a")
}

func TestCondsThatAreNoPatterns(t *testing.T) { // P15.1 to P15.3
	most, tooMany := strings.Repeat("x", api.MaxItems), strings.Repeat("x", api.MaxItems+1)
	tooLong := "[" + long(api.MaxPattern-1) + "]"
	for _, cond := range []string{"", "[", "[x", "[]", "[^]", "x[", "x[]", "x[^]x", "[]x]", tooMany, strings.Repeat(".", api.MaxItems+1), tooLong, long(api.MaxPattern + 1), "[" + most} {
		for _, r := range []api.Rule{suffix("", "", cond), prefix("", "", cond), suffix("x", "x", cond), prefix("x", "x", cond)} {
			expectNoFit(t, r, "", "x", "xx", "[", "[x", "]", "[]", long(99), cond, "x"+cond, cond+"x")
			expectNotMade(t, r, "", "x", "xx", "[", "[x", "]", "[]", long(99), cond, "x"+cond, cond+"x")
		}
	}
	// The longest that is one.
	longest := "[" + long(api.MaxPattern-2) + "]"
	expectMade(t, suffix("", "s", longest), "ax", "axs")
	expectNoFit(t, suffix("", "s", longest), "xa")
	expectMade(t, prefix("", "s", longest), "xa", "sxa")
	expectNoFit(t, prefix("", "s", longest), "ax")
}

func TestCondsOfTheMostItems(t *testing.T) { // P15.1 to P15.3
	letters := "abcdefghijklmnop"[:api.MaxItems]
	back, front := suffix("p", "x", letters), prefix("a", "x", letters)
	expectMade(t, back, letters, letters[:api.MaxItems-1]+"x")
	expectMade(t, back, "z"+letters, "z"+letters[:api.MaxItems-1]+"x")
	expectNoFit(t, back, letters[1:], letters+"p", "a"+letters[1:api.MaxItems-1]+"op")
	expectMade(t, front, letters, "x"+letters[1:])
	expectMade(t, front, letters+"z", "x"+letters[1:]+"z")
	expectNoFit(t, front, letters[:api.MaxItems-1], "a"+letters)
	for i := range letters {
		other := letters[:i] + "z" + letters[i+1:]
		expectNoFit(t, back, other, letters+other)
		expectNoFit(t, front, other, other+letters)
	}
	expectNoFit(t, suffix("p", "x", "."+letters), "z"+letters)
	expectNoFit(t, prefix("a", "x", letters+"."), letters+"z")
	each := strings.Repeat(".", api.MaxItems)
	expectMade(t, suffix("", "s", each), long(api.MaxItems), long(api.MaxItems)+"s")
	expectNoFit(t, suffix("", "s", each), long(api.MaxItems-1))
}

func TestUndoOfWhatIsNotMade(t *testing.T) { // P15.3
	// Words that are shorter than Add, Add itself, and words that haven't Add at the rule's side.
	expectNotMade(t, suffix("y", "ies", "."), "", "s", "es", "ie", "i", "ies", "flie", "iesfl", "flieS", "fly")
	expectNotMade(t, prefix("y", "ies", "."), "", "i", "ie", "es", "ies", "iefl", "flies", "yfl")
	// Add itself would come of a word that is just Strip.
	expectNotMade(t, suffix("", "s", "."), "s")
	expectNotMade(t, prefix("", "s", "."), "s")
	expectNotMade(t, suffix("fly", "s", "."), "s")
	expectNotMade(t, prefix("fly", "s", "."), "s")
	expectMade(t, suffix("fly", "s", "."), "afly", "as")
	expectMade(t, prefix("fly", "s", "."), "flya", "sa")
	// What the rule would make of words that it doesn't fit.
	expectNotMade(t, ies, "ies", "daies", "aies", "eies")
	expectNotMade(t, re, "reundo", "re", "rered", "undo")
	expectNotMade(t, suffix("", "s", "[^sy]"), "flys", "gass", "ys", "ss")
	expectNotMade(t, suffix("x", "", "ax"), "b", "ab", "")
	expectMade(t, suffix("x", "", "ax"), "ax", "a")
	expectNotMade(t, prefix("x", "", "xa"), "b", "ba", "")
	expectMade(t, prefix("x", "", "xa"), "xa", "a")
}

func TestUndoLooksAtTheWordAhead(t *testing.T) { // P15.3
	// The pattern admits what was made, and not what it was made of; and the other way round.
	expectNotMade(t, suffix("", "s", "s"), "cats")
	expectMade(t, suffix("", "s", "t"), "cat", "cats")
	expectNotMade(t, prefix("", "u", "u"), "ucat")
	expectMade(t, prefix("", "u", "c"), "cat", "ucat")
	// Add stands in a word more than once: only the one at the rule's side is taken away.
	expectMade(t, suffix("", "s", "."), "ss", "sss")
	expectMade(t, suffix("y", "an", "."), "banany", "bananan")
	expectMade(t, prefix("", "un", "."), "unun", "ununun")
	expectMade(t, prefix("y", "ba", "."), "ybana", "babana")
}

func TestFieldsThatDoNotCount(t *testing.T) { // P15.1 to P15.5
	for _, flag := range []api.Flag{0, 1, 'A', 65535} {
		for _, cross := range []bool{false, true} {
			for _, next := range [][]api.Flag{nil, {}, {0}, {7, 300}, {300, 7, 7}} {
				back := api.Rule{Kind: api.Suffix, Flag: flag, Cross: cross, Strip: "y", Add: "ies", Cond: "[^aeiou]y", Next: next}
				front := api.Rule{Kind: api.Prefix, Flag: flag, Cross: cross, Add: "re", Cond: "f", Next: next}
				expectMade(t, back, "fly", "flies")
				expectNoFit(t, back, "day")
				expectNotMade(t, back, "daies")
				expectMade(t, front, "fly", "refly")
				expectNoFit(t, front, "day")
				expectNotMade(t, front, "reday")
				expectChain(t, "fly", "reflies", back, front)
				expectChain(t, "fly", "reflies", front, back)
				expectNoFit(t, api.Rule{Flag: flag, Cross: cross, Strip: "y", Cond: ".", Next: next}, "fly")
			}
		}
	}
}

func TestAnyBytes(t *testing.T) { // P15.1 to P15.3, rule 6
	all := every()
	expectMade(t, suffix(all, "\x00", "."), all+all, all+"\x00")
	expectMade(t, prefix(all, "\xff", "."), all+all, "\xff"+all)
	expectNoFit(t, suffix(all, "", "."), all, all[1:]+all[1:])
	expectMade(t, suffix("\xa4", "\xa4\xc3", "\xc3."), "\xc3\xa4", "\xc3\xa4\xc3")
	expectMade(t, prefix("\xc3", "", "[^\xa4]"), "ä", "\xa4")
	expectMade(t, suffix(" /#\\\n", "\t", "."), "a /#\\\n", "a\t")
	for b := range 256 {
		one := string([]byte{byte(b)})
		other := string([]byte{byte(b + 1)})
		expectMade(t, suffix(one, other, "."), "a"+one, "a"+other)
		expectMade(t, prefix(one, other, "."), one+"a", other+"a")
		expectNoFit(t, suffix(one, "", "."), one, "a"+other)
		expectNoFit(t, prefix(one, "", "."), one, other+"a")
		expectNotMade(t, suffix("", one, "."), one, "a"+other)
		expectNotMade(t, prefix("", one, "."), one, other+"a")
	}
}

func TestWordsAndPiecesOfGreatLength(t *testing.T) { // P15.1 to P15.5, rule 6
	for _, n := range []int{api.MaxAffix, api.MaxAffix + 1, api.MaxWord, api.MaxWord + 1, api.MaxText, api.MaxText + 1, 1 << 22} {
		much := long(n)
		expectMade(t, suffix("", "s", "."), much, much+"s")
		expectMade(t, prefix("", "s", "."), much, "s"+much)
		expectMade(t, suffix(much, "", "."), "a"+much, "a")
		expectMade(t, prefix(much, "", "."), much+"a", "a")
		expectMade(t, suffix("y", much, "."), "ay", "a"+much)
		expectMade(t, prefix("y", much, "."), "ya", much+"a")
		expectNoFit(t, suffix(much, much, "."), much, much[1:], much+"a")
		expectNoFit(t, prefix(much, much, "."), much, much[1:], "a"+much)
		expectNotMade(t, suffix(much, much, "."), much, much[1:], much+"a")
		expectNotMade(t, prefix(much, much, "."), much, much[1:], "a"+much)
		expectChain(t, "a", much+"a"+much, suffix("", much, "a"), prefix("", much, "a"))
	}
}

func TestARuleTurnedRound(t *testing.T) { // P15.2, P15.3
	// Where no pattern looks on, a rule is undone as one is applied that strips what it adds and adds what it strips.
	for _, c := range [][2]string{{"y", "ies"}, {"", "s"}, {"aa", "a"}, {"ab", "ba"}, {"", ""}} {
		for _, word := range []string{"fly", "aaa", "xab", "x"} {
			there, back := suffix(c[0], c[1], "."), suffix(c[1], c[0], ".")
			made, ok := rules.Apply(there, word)
			if again, some := rules.Undo(back, word); again != made || some != ok {
				t.Errorf("Apply(%q, %q) = %q, %v, and Undo of the turned one %q, %v", shown(there), word, made, ok, again, some)
			}
		}
	}
}
