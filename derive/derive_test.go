package derive_test

import (
	"fmt"
	"math"
	"slices"
	"strings"
	"testing"

	"hornbook/api"
	"hornbook/derive"
	"hornbook/tables"
)

func TestTheExamples(t *testing.T) { // P16.1 to P16.4
	u := example(t)
	expectEach(t, u, 0,
		told("do", 0, -1, -1, -1), told("redo", 0, -1, -1, 2),
		told("dos", 0, 0, -1, -1), told("redos", 0, 0, -1, 2),
		told("doers", 0, 1, 3, -1))
	expectNone(t, u, 0, 1, -1, -1) // doer: Ends(1) is false
	expectNone(t, u, 0, 1, 3, 2)   // redoers: rule 3 has no Cross
	expectEach(t, u, 1)
	expectMeasure(t, u, 100, 5, 19, true)
	expectMeasure(t, u, 19, 5, 19, true)
	expectMeasure(t, u, 18, 0, 0, false)
}

func TestTheExamplesOfTheWhole(t *testing.T) { // P16.1, P16.3, P16.5
	u := whole(t)
	for entry, want := range []string{"fly flies", "cat cats", "play unplay player unplayer players unplayers", "knot", "flys", "singer singers"} {
		expectTexts(t, u, entry, want)
	}
	expectMade(t, u, told("unplayers", 2, 2, 0, 3))
	expectNone(t, u, 5, -1, -1, -1) // sing needs an affix
	words := fed(t, u, nil, []int{api.Forbid})
	slices.Sort(words)
	if got := strings.Join(words, " "); got != "cat cats flies fly knot play player players singer singers unplay unplayer unplayers" {
		t.Errorf("the words are %q", got)
	}
	expectFed(t, u, []int{api.Part}, []int{api.Forbid}, "cat cats knot")
}

func TestEntriesThatAreNone(t *testing.T) { // P16.1 to P16.3
	u := rich(t)
	for _, entry := range places(u.Len()) {
		if entry >= 0 && entry < u.Len() {
			continue
		}
		expectEach(t, u, entry)
		expectList(t, u, entry, 9)
		for _, first := range []int{-1, 2, 3} {
			expectNone(t, u, entry, first, -1, -1)
			expectNone(t, u, entry, first, 2, 5)
			expectNone(t, u, entry, first, -1, 0)
		}
	}
	expectMeasure(t, read(t, "SFX A Y 1\nSFX A 0 s\n", "0"), 0, 0, 0, true)
	if got := gather(derive.All(read(t, "", "0"))); len(got) != 0 {
		t.Errorf("All gives %v of no entries", got)
	}
}

func TestNilTables(t *testing.T) { // P16.1 to P16.5
	for _, n := range places(3) {
		expectEach(t, nil, n)
		expectList(t, nil, 0, n)
		expectList(t, nil, n, 9)
		expectNone(t, nil, n, -1, -1, -1)
		expectNone(t, nil, 0, n, -1, -1)
		expectNone(t, nil, 0, n, n, n)
		expectMeasure(t, nil, n, 0, 0, n >= 0)
		expectFed(t, nil, nil, []int{n}, "")
		expectFed(t, nil, []int{n}, nil, "")
	}
	if got := gather(derive.All(nil)); len(got) != 0 {
		t.Errorf("All(nil) gives %v", got)
	}
	expectFed(t, nil, nil, nil, "")
	if err := derive.Feed(nil, nil, nil, nil); err != nil {
		t.Errorf("Feed(nil, nil) = %v", err)
	}
}

func TestAnEntryThatIsMarkedNeed(t *testing.T) { // P16.1, P16.3
	affixes := "NEEDAFFIX N\nSFX A N 1\nSFX A 0 s\nPFX P N 1\nPFX P 0 re d\n"
	u := read(t, affixes, list("do/N", "do/NA", "do/NP", "do/NAP", "fit/NAP", "do/AP", "do"))
	expectEach(t, u, 0)
	expectNone(t, u, 0, -1, -1, -1)
	expectEach(t, u, 1, told("dos", 1, 0, -1, -1))
	// A prefix rule is an affix too, and it needs no Cross where there is no other rule.
	expectEach(t, u, 2, told("redo", 2, -1, -1, 1))
	expectEach(t, u, 3, told("redo", 3, -1, -1, 1), told("dos", 3, 0, -1, -1))
	expectNone(t, u, 3, -1, -1, -1)
	expectEach(t, u, 4, told("fits", 4, 0, -1, -1))
	expectEach(t, u, 5, told("do", 5, -1, -1, -1), told("redo", 5, -1, -1, 1), told("dos", 5, 0, -1, -1))
	expectEach(t, u, 6, told("do", 6, -1, -1, -1))
	// Where no flag is NEEDAFFIX's, none is needed.
	u = read(t, "FORBIDDENWORD F\nKEEPCASE K\nCOMPOUNDFLAG C\nNOSUGGEST Q\n", list("a/FKCQ", "a/F", "a"))
	for entry := range 3 {
		expectEach(t, u, entry, told("a", entry, -1, -1, -1))
	}
}

func TestChainsOfNoneOneAndTwoRules(t *testing.T) { // P16.1, P16.3
	affixes := "SFX A Y 1\nSFX A 0 a/B\nSFX B Y 1\nSFX B 0 b/C\nSFX C Y 1\nSFX C 0 c\nPFX P Y 1\nPFX P 0 p\n"
	u := read(t, affixes, list("x", "x/A", "x/P", "x/AP", "x/BP", "x/ABP"))
	expectEach(t, u, 0, told("x", 0, -1, -1, -1))
	expectEach(t, u, 1, told("x", 1, -1, -1, -1), told("xa", 1, 0, -1, -1), told("xab", 1, 0, 1, -1))
	expectEach(t, u, 2, told("x", 2, -1, -1, -1), told("px", 2, -1, -1, 3))
	expectEach(t, u, 3,
		told("x", 3, -1, -1, -1), told("px", 3, -1, -1, 3),
		told("xa", 3, 0, -1, -1), told("pxa", 3, 0, -1, 3),
		told("xab", 3, 0, 1, -1), told("pxab", 3, 0, 1, 3)) // and no third one
	expectTexts(t, u, 4, "x px xb pxb xbc pxbc")
	expectTexts(t, u, 5, "x px xa pxa xab pxab xb pxb xbc pxbc")
	// A rule that goes on by itself goes on once.
	u = read(t, "SFX A Y 2\nSFX A 0 s/A\nSFX A 0 t\n", list("x/A"))
	expectTexts(t, u, 0, "x xs xss xst xt")
	expectNone(t, u, 0, 1, 0, -1)
}

func TestSecondsOfARuleThatDoesNotFit(t *testing.T) { // P16.1, P16.3
	u := read(t, "SFX A Y 1\nSFX A 0 s/B [^x]\nSFX B Y 2\nSFX B 0 t\nSFX B s m\n", list("x/A", "xs/A", "y/A"))
	expectEach(t, u, 0, told("x", 0, -1, -1, -1))
	expectNone(t, u, 0, 0, -1, -1)
	expectNone(t, u, 0, 0, 1, -1)
	expectTexts(t, u, 1, "xs xss xsst xsm")
	expectTexts(t, u, 2, "y ys yst ym")
	// The second one looks at what the first one made, and not at the entry's word.
	u = read(t, "SFX A Y 2\nSFX A 0 s/B\nSFX A y i/B\nSFX B Y 2\nSFX B 0 n y\nSFX B 0 m s\n", list("fly/A"))
	expectTexts(t, u, 0, "fly flys flysm fli")
	expectNone(t, u, 0, 0, 2, -1)
	expectNone(t, u, 0, 1, 2, -1)
	expectNone(t, u, 0, 1, 3, -1)
}

func TestALastRuleThatDoesNotEnd(t *testing.T) { // P16.1, P16.3
	affixes := "NEEDAFFIX N\nSFX A Y 2\nSFX A 0 a/BN\nSFX A 0 d/N\nSFX B Y 2\nSFX B 0 b\nSFX B 0 c/N\nPFX P Y 1\nPFX P 0 p\n"
	u := read(t, affixes, list("x/AP", "x/APN"))
	expectEach(t, u, 0,
		told("x", 0, -1, -1, -1), told("px", 0, -1, -1, 4),
		told("xab", 0, 0, 2, -1), told("pxab", 0, 0, 2, 4))
	for _, prefix := range []int{-1, 4} {
		expectNone(t, u, 0, 0, -1, prefix) // a prefix rule is no affix behind it
		expectNone(t, u, 0, 0, 3, prefix)
		expectNone(t, u, 0, 1, -1, prefix)
		expectNone(t, u, 1, 0, 3, prefix)
	}
	expectTexts(t, u, 1, "px xab pxab")
	// The flag stands in Next, and is no NEEDAFFIX: all end.
	u = read(t, "SFX N Y 1\nSFX N 0 a/N\n", list("x/N"))
	expectTexts(t, u, 0, "x xa xaa")
}

func TestCross(t *testing.T) { // P16.1, P16.3
	// Of each class one with Cross, and one without.
	affixes := rows("SFX A Y 1", "SFX A 0 a/BD", "SFX C N 1", "SFX C 0 c/BD", "SFX B Y 1", "SFX B 0 b", "SFX D N 1", "SFX D 0 d",
		"PFX P Y 1", "PFX P 0 p", "PFX Q N 1", "PFX Q 0 q")
	u := read(t, affixes, list("x/ACPQ"))
	for first, cross := range map[int]bool{-1: true, 0: true, 1: false} {
		for second, too := range map[int]bool{-1: true, 2: true, 3: false} {
			if first == -1 && second != -1 {
				continue
			}
			surface := "x" + []string{"", "a", "c"}[first+1] + map[int]string{-1: "", 2: "b", 3: "d"}[second]
			expectMade(t, u, told(surface, 0, first, second, -1))
			if cross && too {
				expectMade(t, u, told("p"+surface, 0, first, second, 4))
			} else {
				expectNone(t, u, 0, first, second, 4)
			}
			if first == -1 {
				expectMade(t, u, told("qx", 0, -1, -1, 5))
			} else {
				expectNone(t, u, 0, first, second, 5)
			}
		}
	}
	expectTexts(t, u, 0, "x px qx xa pxa xab pxab xad xc xcb xcd")
}

func TestThePrefixRuleLooksAtTheChainsWord(t *testing.T) { // P16.1, P16.3
	// Its condition meets what a suffix rule added.
	u := read(t, "SFX A Y 2\nSFX A 0 s\nSFX A 0 t\nPFX P Y 2\nPFX P 0 p as\nPFX P 0 q a[^s]\n", list("a/AP", "as/AP"))
	expectEach(t, u, 0,
		told("a", 0, -1, -1, -1),
		told("as", 0, 0, -1, -1), told("pas", 0, 0, -1, 2),
		told("at", 0, 1, -1, -1), told("qat", 0, 1, -1, 3))
	expectTexts(t, u, 1, "as pas ass pass ast past")
	// Its Strip does; and it strips what was added.
	u = read(t, "SFX A Y 2\nSFX A 0 sun/B\nSFX A b cd\nSFX B Y 1\nSFX B un tar\nPFX P Y 2\nPFX P as r\nPFX P ac 0 acd\n", list("a/AP", "ab/AP", "as/AP"))
	expectTexts(t, u, 0, "a asun run astar rtar")
	expectTexts(t, u, 1, "ab absun abstar acd d")
	expectTexts(t, u, 2, "as assun rsun asstar rstar")
	expectNone(t, u, 2, -1, -1, 3) // as long as Strip
	// What a suffix rule took away is met no more, nor too short a word.
	u = read(t, "SFX A Y 1\nSFX A un 0\nPFX P Y 2\nPFX P run t\nPFX P 0 re [^r]un\n", list("arun/AP", "run/AP", "runs/AP"))
	expectTexts(t, u, 0, "arun ar")
	expectTexts(t, u, 1, "run r")
	expectTexts(t, u, 2, "runs ts")
}

func TestSurfacesThatAreAlike(t *testing.T) { // P16.1 to P16.5
	// By one rule or another, by none, of one entry or another: each counts.
	u := read(t, "SFX A Y 3\nSFX A 0 s\nSFX A 0 s/A\nSFX A 0 0\nPFX P Y 2\nPFX P 0 0\nPFX P 0 0\n", list("x/A", "xs", "xs/A", "x/P", "x"))
	expectEach(t, u, 0,
		told("x", 0, -1, -1, -1),
		told("xs", 0, 0, -1, -1),
		told("xs", 0, 1, -1, -1), told("xss", 0, 1, 0, -1), told("xss", 0, 1, 1, -1), told("xs", 0, 1, 2, -1),
		told("x", 0, 2, -1, -1))
	expectEach(t, u, 3, told("x", 3, -1, -1, -1), told("x", 3, -1, -1, 3), told("x", 3, -1, -1, 4))
	expectTexts(t, u, 2, "xs xss xss xsss xsss xss xs")
	words, bytes := 0, 0
	for d := range derive.All(u) {
		words, bytes = words+1, bytes+len(d.Surface)
	}
	expectMeasure(t, u, 1000, words, bytes, true)
	if words != 7+1+7+3+1 || bytes != 14+2+21+3+1 {
		t.Errorf("%d derivations of %d bytes", words, bytes)
	}
	expectFed(t, u, nil, nil, "x xs xs xss xss xs x xs xs xss xss xsss xsss xss xs x x x x")
}

// TestSurfacesLongerThanAWord: of the longest word and the longest pieces; nothing bounds what rules make.
func TestSurfacesLongerThanAWord(t *testing.T) { // P16.1, P16.3, P16.4
	word, piece := strings.Repeat("w", api.MaxWord), long(api.MaxAffix)
	u := read(t, "SFX A Y 1\nSFX A 0 "+piece+"/B\nSFX B Y 2\nSFX B 0 "+piece+"\nSFX B "+piece+" 0\nPFX P Y 1\nPFX P 0 "+piece+"\n", list(word+"/AP"))
	expectEach(t, u, 0,
		told(word, 0, -1, -1, -1), told(piece+word, 0, -1, -1, 3),
		told(word+piece, 0, 0, -1, -1), told(piece+word+piece, 0, 0, -1, 3),
		told(word+piece+piece, 0, 0, 1, -1), told(piece+word+piece+piece, 0, 0, 1, 3),
		told(word, 0, 0, 2, -1), told(piece+word, 0, 0, 2, 3))
	expectMeasure(t, u, 1000, 8, 8*api.MaxWord+10*api.MaxAffix, true)
}

func TestTheOrder(t *testing.T) { // P16.1
	// Flags that fall from class to class, and rules of both kinds in turn: the numbers count.
	u := read(t, rows("PFX Z Y 1", "PFX Z 0 z", "SFX Y Y 2", "SFX Y 0 y/XY", "SFX Y 0 Y", "PFX W Y 1", "PFX W 0 w", "SFX X Y 1", "SFX X 0 x/Y", "PFX B Y 1", "PFX B 0 b"), list("o/XYZBW", "u/WXYZ"))
	expectTexts(t, u, 0, strings.Join([]string{
		"o", "zo", "wo", "bo", "oy", "zoy", "woy", "boy", "oyy", "zoyy", "woyy", "boyy", "oyY", "zoyY", "woyY", "boyY",
		"oyx", "zoyx", "woyx", "boyx", "oY", "zoY", "woY", "boY", "ox", "zox", "wox", "box", "oxy", "zoxy", "woxy", "boxy", "oxY", "zoxY", "woxY", "boxY"}, " "))
	all := gather(derive.All(u))
	if !slices.IsSortedFunc(all, compare) || len(slices.CompactFunc(slices.Clone(all), func(a, b api.Derived) bool { return compare(a, b) == 0 })) != len(all) {
		t.Errorf("All gives %v", all)
	}
}

// compare: which comes first, by the numbers alone.
func compare(a, b api.Derived) int {
	return slices.Compare([]int{a.Entry, a.First, a.Second, a.Prefix}, []int{b.Entry, b.First, b.Second, b.Prefix})
}

func TestTheRichTables(t *testing.T) { // P16.1, P16.3
	u := rich(t)
	expectEach(t, u, 0,
		told("fly", 0, -1, -1, -1), told("unfly", 0, -1, -1, 0), told("refly", 0, -1, -1, 5),
		told("flys", 0, 2, -1, -1), told("reflys", 0, 2, -1, 5),
		told("flysly", 0, 2, 7, -1), told("reflysly", 0, 2, 7, 5), told("flyzes", 0, 2, 8, -1), told("reflyzes", 0, 2, 8, 5),
		told("flyers", 0, 3, 2, -1), told("reflyers", 0, 3, 2, 5), told("plyers", 0, 3, 2, 6),
		told("fliesly", 0, 4, 7, -1), told("refliesly", 0, 4, 7, 5), told("fliezes", 0, 4, 8, -1), told("refliezes", 0, 4, 8, 5))
	for entry, want := range map[int]string{
		1: "fly", 2: "reday days redays daysly redaysly dayzes redayzes dayers redayers", 3: "unfa a",
		4: "gas regas gasly regasly gazes regazes gazess regazess gasness gasnessly gasneszes",
		5: "", 6: "fit fitness fitnessly fitneszes", 7: "x xly", 8: "y ys ysly yzes yers", 9: "fly refly flyly reflyly",
	} {
		expectTexts(t, u, entry, want)
	}
}

func TestAllGivesEachEntrysInTurn(t *testing.T) { // P16.1
	for _, u := range []*tables.Tables{example(t), whole(t), rich(t), read(t, "", list("b", "a", "a"))} {
		var want []api.Derived
		for entry := range u.Len() {
			want = append(want, gather(derive.Each(u, entry))...)
		}
		if got := gather(derive.All(u)); !slices.Equal(got, want) {
			t.Errorf("All gives\n%v; want\n%v", got, want)
		}
	}
}

func TestList(t *testing.T) { // P16.2
	u := rich(t)
	for entry := range u.Len() {
		all := gather(derive.Each(u, entry))
		for _, most := range places(len(all)) {
			expectList(t, u, entry, most, all[:min(max(most, 0), len(all))]...)
		}
	}
	expectList(t, u, 0, 2, told("fly", 0, -1, -1, -1), told("unfly", 0, -1, -1, 0))
	expectList(t, u, 5, 2)
	expectList(t, u, 0, math.MaxInt, gather(derive.Each(u, 0))...)
}

func TestMakeOfNumbersThatAreNoDerivation(t *testing.T) { // P16.3
	u := rich(t)
	expectMade(t, u, told("flyers", 0, 3, 2, -1))
	expectMade(t, u, told("plyers", 0, 3, 2, 6))
	for _, n := range places(10) {
		if n != 3 {
			expectMadeOnlyAs(t, u, told("", 0, n, 2, -1))
		}
		if n != 2 {
			expectMadeOnlyAs(t, u, told("", 0, 3, n, -1))
		}
		if n != -1 && n != 5 && n != 6 {
			expectNone(t, u, 0, 3, 2, n)
		}
		// A second rule, and no first one.
		if n != -1 {
			expectNone(t, u, 0, -1, n, -1)
			expectNone(t, u, 0, -1, n, 5)
		}
	}
	expectNone(t, u, 1, 2, -1, -1)  // a rule of another entry
	expectNone(t, u, 1, -1, -1, 5)  // likewise a prefix rule
	expectNone(t, u, 0, 7, -1, -1)  // a rule that only goes on from others
	expectNone(t, u, 0, 2, 3, -1)   // a rule of the entry, that doesn't go on from the first one
	expectNone(t, u, 0, 7, 2, -1)   // in the other order
	expectNone(t, u, 0, 5, -1, -1)  // a prefix rule in a suffix rule's place
	expectNone(t, u, 0, -1, -1, 2)  // and the other way round
	expectNone(t, u, 0, 2, 5, -1)   // likewise
	expectNone(t, u, 0, -1, -1, 6)  // it doesn't fit
	expectNone(t, u, 2, 4, -1, -1)  // nor does this
	expectNone(t, u, 0, 4, -1, -1)  // it doesn't end
	expectNone(t, u, 0, 2, -1, 0)   // no Cross
	expectNone(t, u, 0, -2, -1, -1) // -1 alone is no rule
	expectNone(t, u, 0, -1, -2, -1)
	expectNone(t, u, 0, -1, -1, -2)
	expectNone(t, u, -1, -1, -1, -1)
	expectNone(t, u, 10, -1, -1, -1)
}

// expectMadeOnlyAs: Make makes it just where Each gives it, and then with its surface.
func expectMadeOnlyAs(t *testing.T, u *tables.Tables, d api.Derived) {
	t.Helper()
	for each := range derive.Each(u, d.Entry) {
		if compare(each, d) == 0 {
			expectMade(t, u, each)
			return
		}
	}
	expectNone(t, u, d.Entry, d.First, d.Second, d.Prefix)
}

// TestMakeMakesJustWhatEachGives: over all numbers of the tables and some beside.
func TestMakeMakesJustWhatEachGives(t *testing.T) { // P16.1, P16.3
	for _, u := range []*tables.Tables{example(t), whole(t), rich(t)} {
		given := map[api.Derived]string{}
		for d := range derive.All(u) {
			surface := d.Surface
			d.Surface = ""
			if _, twice := given[d]; twice {
				t.Errorf("All gives %v twice", d)
			}
			given[d] = surface
		}
		count := len(u.Affixes().Rules)
		for entry := -1; entry <= u.Len(); entry++ {
			for first := -2; first <= count; first++ {
				for second := -2; second <= count; second++ {
					for prefix := -2; prefix <= count; prefix++ {
						d := told("", entry, first, second, prefix)
						want, is := given[d]
						if got, ok := derive.Make(u, d); got != want || ok != is {
							t.Fatalf("Make(%v) = %q, %v; want %q, %v", d, got, ok, want, is)
						}
					}
				}
			}
		}
	}
}

func TestMeasure(t *testing.T) { // P16.4
	for _, u := range []*tables.Tables{example(t), whole(t), rich(t), read(t, "", list("a")), read(t, "", "0"), read(t, "NEEDAFFIX N\n", list("a/N", "b/N"))} {
		words, bytes := 0, 0
		for d := range derive.All(u) {
			words, bytes = words+1, bytes+len(d.Surface)
		}
		for _, most := range places(bytes) {
			if most >= bytes {
				expectMeasure(t, u, most, words, bytes, true)
			} else {
				expectMeasure(t, u, most, 0, 0, false)
			}
		}
	}
}

// TestMeasureUpToMaxBytes: sixteen entries, of 1024 derivations of 64 bytes each, and one more byte.
func TestMeasureUpToMaxBytes(t *testing.T) { // P16.4
	affixes := class("SFX A Y", 1023, func(int) string { return "0 0" })
	entries := slices.Repeat([]string{long(64) + "/A"}, 16)
	full := read(t, affixes, list(entries...))
	for _, most := range []int{api.MaxBytes, api.MaxBytes + 1, 2 * api.MaxBytes, 1 << 40, math.MaxInt} {
		expectMeasure(t, full, most, 16*1024, api.MaxBytes, true)
	}
	expectMeasure(t, full, api.MaxBytes-1, 0, 0, false)
	over := read(t, affixes, list(append(entries, "y")...))
	for _, most := range []int{api.MaxBytes - 1, api.MaxBytes, api.MaxBytes + 1, api.MaxBytes + 2, 1 << 40, math.MaxInt} {
		expectMeasure(t, over, most, 0, 0, false)
	}
	under := read(t, affixes, list(append(entries[:15:15], long(63)+"/A", "y")...))
	expectMeasure(t, under, math.MaxInt, 16*1024+1, api.MaxBytes-1023, true)
}

// endless: tables with so many derivations that none may go over all of them.
func endless(t *testing.T) *tables.Tables {
	t.Helper()
	affixes := class("SFX A Y", 340, func(n int) string { return fmt.Sprintf("0 a%d/B", n) }) +
		class("SFX B Y", 340, func(n int) string { return fmt.Sprintf("0 b%d", n) }) +
		class("PFX P Y", 340, func(n int) string { return fmt.Sprintf("0 p%d", n) })
	return read(t, affixes, list(slices.Repeat([]string{"x/AP"}, 5000)...))
}

// TestTheFirstOnesComeAtOnce: they need few steps, where all would need years.
func TestTheFirstOnesComeAtOnce(t *testing.T) { // P16.1, P16.2, P16.4
	u := endless(t)
	for call, ask := range map[string]func(){
		"List": func() { derive.List(u, 4999, 3) },
		"Each": func() {
			for d := range derive.Each(u, 4999) {
				if d.First != -1 {
					break
				}
			}
		},
		"All": func() {
			for d := range derive.All(u) {
				if d.Second == 342 {
					break
				}
			}
		},
		"Measure": func() { derive.Measure(u, 4096) },
		"Feed": func() {
			derive.Feed(u, func(words ...string) error {
				if words[0] == "p9xa0b0" {
					return api.FailFull
				}
				return nil
			}, nil, nil)
		},
		"Each and All, not gone over": func() { derive.Each(u, 0); derive.All(u) },
	} {
		if steps := testing.AllocsPerRun(1, ask); steps > 5000 {
			t.Errorf("%s takes %g pieces of memory", call, steps)
		}
	}
	expectList(t, u, 7, 2, told("x", 7, -1, -1, -1), told("p0x", 7, -1, -1, 680))
	expectMade(t, u, told("p339xa339b339", 4999, 339, 679, 1019))
}

// TestNothingIsMadeAhead: behind the last one that is asked for there is a long search for a further one.
func TestNothingIsMadeAhead(t *testing.T) { // P16.1, P16.2, P16.4, P16.5
	affixes := "NEEDAFFIX N\n" + class("SFX A Y", 400, func(int) string { return "0 0/BN" }) + class("SFX B Y", 400, func(int) string { return "z s" })
	u := read(t, affixes, list(slices.Insert(slices.Repeat([]string{"x/AN"}, 20), 0, "x/A")...))
	for call, ask := range map[string]func(){
		"List":    func() { expectList(t, u, 0, 1, told("x", 0, -1, -1, -1)) },
		"Measure": func() { expectMeasure(t, u, 0, 0, 0, false) },
		"Each": func() {
			for range derive.Each(u, 0) {
				break
			}
		},
		"All": func() {
			for range derive.All(u) {
				break
			}
		},
		"Feed": func() { derive.Feed(u, func(...string) error { return api.FailFull }, nil, nil) },
		"Make": func() { expectNone(t, u, 0, 3, -1, -1); expectNone(t, u, 1, 3, 400, -1) },
	} {
		if steps := testing.AllocsPerRun(1, ask); steps > 500 {
			t.Errorf("%s takes %g pieces of memory", call, steps)
		}
	}
	expectMeasure(t, u, 1, 1, 1, true)
}

func TestIteratorsAreLeftAnywhere(t *testing.T) { // P16.1
	u := rich(t)
	iterators := []func(func(api.Derived) bool){derive.All(u), derive.Each(u, 5), derive.Each(u, 99), derive.Each(nil, 0), derive.All(nil)}
	for entry := range u.Len() {
		iterators = append(iterators, derive.Each(u, entry))
	}
	for _, each := range iterators {
		all := gather(each)
		for count := range len(all) + 1 {
			var got []api.Derived
			each(func(d api.Derived) bool {
				got = append(got, d)
				return len(got) < count
			})
			if want := all[:min(max(count, 1), len(all))]; !slices.Equal(got, want) {
				t.Errorf("left at %d: %v; want %v", count, got, want)
			}
			// It begins anew, wherever it was left.
			if got := gather(each); !slices.Equal(got, all) {
				t.Errorf("gone over again: %v; want %v", got, all)
			}
		}
	}
}

// TestAnIteratorWithinItself: each walk is one of its own.
func TestAnIteratorWithinItself(t *testing.T) { // P16.1
	u := rich(t)
	all := derive.All(u)
	want := gather(all)
	var outer []api.Derived
	for d := range all {
		outer = append(outer, d)
		if got := gather(all); !slices.Equal(got, want) {
			t.Fatalf("within itself, behind %v: %v", d, got)
		}
		if got := derive.List(u, d.Entry, 1); len(got) != 1 || got[0].Entry != d.Entry {
			t.Fatalf("List behind %v: %v", d, got)
		}
	}
	if !slices.Equal(outer, want) {
		t.Errorf("around itself: %v; want %v", outer, want)
	}
}
