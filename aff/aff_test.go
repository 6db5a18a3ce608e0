package aff_test

import (
	"strings"
	"testing"

	"hornbook/api"
)

func TestTheChaptersExamples(t *testing.T) { // P11.1, P11.2
	want := plain()
	want.Classes = []api.Class{{Flag: 65, Kind: api.Suffix, Cross: true, First: 0, Count: 1}}
	want.Rules = []api.Rule{{Kind: api.Suffix, Flag: 65, Cross: true, Strip: "y", Add: "ies", Cond: "[^aeiou]y"}}
	expectSays(t, want, "SFX A Y 1", "SFX A y ies [^aeiou]y")

	want = plain()
	want.Classes = []api.Class{{Flag: 'U', Kind: api.Prefix}}
	expectSays(t, want, "PFX U N 0")

	expectFault(t, 3, api.ErrCount, "SFX A Y 2", "SFX A 0 s")
	expectFault(t, 2, api.ErrNext, "SFX A Y 1", "SFX A 0 s/B")
	expectTaken(t, "SFX A Y 1", "SFX A 0 s/B", "SFX B Y 0")
	expectTaken(t, "SFX A Y 1", "SFX A 0 s/B", "NEEDAFFIX B")

	want = api.Affixes{Kind: api.Numbers, Least: 3}
	want.Aliases = [][]api.Flag{{7, 300}}
	want.Classes = []api.Class{{Flag: 7, Kind: api.Suffix, Cross: true, Count: 1}, {Flag: 300, Kind: api.Suffix, First: 1}}
	want.Rules = []api.Rule{{Kind: api.Suffix, Flag: 7, Cross: true, Add: "s", Cond: ".", Next: []api.Flag{7, 300}}}
	expectSays(t, want, "FLAG num", "AF 1", "AF 7,300", "SFX 7 Y 1", "SFX 7 0 s/1", "SFX 300 N 0")

	expectFault(t, 2, api.ErrOrder, "NEEDAFFIX X", "FLAG long")
	expectFault(t, 1, api.ErrKey, "flag long")
}

func TestTheFileOfTheWholesExamples(t *testing.T) { // P11.2
	want := plain()
	want.Try = "esy"
	want.Specials = [api.Specials]api.Flag{api.Need: 'N', api.Forbid: 'F', api.Part: 'C'}
	want.Reps = []api.Rep{{From: "f", To: "ph"}}
	want.Classes = []api.Class{
		{Flag: 'S', Kind: api.Suffix, Cross: true, First: 0, Count: 2},
		{Flag: 'E', Kind: api.Suffix, Cross: true, First: 2, Count: 1},
		{Flag: 'U', Kind: api.Prefix, Cross: true, First: 3, Count: 1},
	}
	want.Rules = []api.Rule{
		{Kind: api.Suffix, Flag: 'S', Cross: true, Add: "s", Cond: "[^sy]"},
		{Kind: api.Suffix, Flag: 'S', Cross: true, Strip: "y", Add: "ies", Cond: "[^aeiou]y"},
		{Kind: api.Suffix, Flag: 'E', Cross: true, Add: "er", Cond: ".", Next: []api.Flag{'S'}},
		{Kind: api.Prefix, Flag: 'U', Cross: true, Add: "un", Cond: "."},
	}
	whole := []string{
		"FORBIDDENWORD F", "NEEDAFFIX N", "COMPOUNDFLAG C", "TRY esy", "REP 1", "REP f ph",
		"SFX S Y 2", "SFX S 0 s [^sy]", "SFX S y ies [^aeiou]y", "SFX E Y 1", "SFX E 0 er/S .", "PFX U Y 1", "PFX U 0 un .",
	}
	expectSays(t, want, whole...)
	// The ninth example: without the row of the line 8.
	expectFault(t, 9, api.ErrCount, lists(whole[:7], whole[8:])...)
}

func TestAFileThatSaysAll(t *testing.T) { // P11.2
	want := api.Affixes{
		Kind:     api.Long,
		Charset:  "UTF-8",
		Try:      "abc",
		Specials: [api.Specials]api.Flag{'n' * 257, 'f' * 257, 'k' * 257, 'p' * 257, 'q' * 257},
		Least:    64,
		Reps:     []api.Rep{{From: "a#", To: ""}, {From: "0", To: "/"}, {From: "b", To: `\`}},
		Aliases:  [][]api.Flag{{'a' * 257, 'b' * 257}, {'n' * 257}},
		Classes: []api.Class{
			{Flag: 'c' * 257, Kind: api.Prefix, First: 0, Count: 0},
			{Flag: 'a' * 257, Kind: api.Suffix, Cross: true, First: 0, Count: 2},
			{Flag: 'd' * 257, Kind: api.Suffix, First: 2, Count: 0},
			{Flag: 'b' * 257, Kind: api.Suffix, First: 2, Count: 1},
			{Flag: 'e' * 257, Kind: api.Prefix, Cross: true, First: 3, Count: 1},
			{Flag: 'g' * 257, Kind: api.Prefix, First: 4, Count: 0},
		},
		Rules: []api.Rule{
			{Kind: api.Suffix, Flag: 'a' * 257, Cross: true, Strip: "y", Add: "ies", Cond: "[^aeiou]y", Next: []api.Flag{'n' * 257}},
			{Kind: api.Suffix, Flag: 'a' * 257, Cross: true, Cond: ".", Next: []api.Flag{'a' * 257, 'b' * 257}},
			{Kind: api.Suffix, Flag: 'b' * 257, Strip: "#", Add: "/", Cond: "#"},
			{Kind: api.Prefix, Flag: 'e' * 257, Cross: true, Strip: "00", Add: "01", Cond: ".."},
		},
	}
	expectSays(t, want,
		"SET UTF-8", "FLAG long # flags of two bytes", "TRY abcba", "", "# what marks words",
		"NEEDAFFIX nn", "FORBIDDENWORD ff", "KEEPCASE kk", "COMPOUNDFLAG pp", "NOSUGGEST qq", "COMPOUNDMIN 64",
		"REP 3", "REP a# 0", "", "REP 0 \\/ # the first one is the text 0", `REP b \\`,
		"\tAF 2", "AF bbaabb", "AF nn\r", "PFX cc N 0",
		"SFX aa Y 2", "SFX aa y ies/2 [^uoieaa]y", "# between", "SFX aa 0 0/1", "SFX dd N 0",
		`  SFX	bb N 1`, `SFX bb \# \/ [#]`, "PFX ee Y 1", "PFX ee 00 01 ..", "PFX gg N 0")
}

func TestNoRowsAtAll(t *testing.T) { // P11.1, P11.2
	for _, text := range []string{"", "\n", "\r\n", " \t \n", "#", "# FLAG long\n#\n", "\xef\xbb\xbf", "\n\n\n# x"} {
		expectFaultOf(t, text, api.Fault{})
		expectSays(t, plain(), text)
	}
}

func TestTextsUpToTheMostBytes(t *testing.T) { // P11.1
	most := "SET x\n" + strings.Repeat("#", api.MaxText-len("SET x\n"))
	expectFaultOf(t, most, api.Fault{})
	expectFaultOf(t, most+"#", api.Fault{File: api.AffFile, Line: 0, Code: api.ErrLong})
	expectFaultOf(t, strings.Repeat("\n", api.MaxText), api.Fault{})
	expectFaultOf(t, strings.Repeat("\n", api.MaxText+1), api.Fault{File: api.AffFile, Line: 0, Code: api.ErrLong})
	// The length is asked ahead of all rows.
	expectFaultOf(t, "wrong\n"+strings.Repeat("\n", api.MaxText), api.Fault{File: api.AffFile, Line: 0, Code: api.ErrLong})
	expectFaultOf(t, "wrong\n"+strings.Repeat("#", api.MaxText-len("wrong\n")), api.Fault{File: api.AffFile, Line: 1, Code: api.ErrKey})
}

func TestTheFirstRowAtFaultIsTold(t *testing.T) { // P11.1
	expectFault(t, 2, api.ErrWord, "SET a", "TRY a\x7f", "flag", "FLAG x")
	expectFault(t, 3, api.ErrValue, "# x", "", "FLAG x", "TRY a\x7f")
	expectFault(t, 5, api.ErrKey, "SET a", "", "# b", "", "Set b", "SET b")
	expectFaultOf(t, "\xef\xbb\xbfSET a\r\n\r\nwrong", api.Fault{File: api.AffFile, Line: 3, Code: api.ErrKey})
	// A keyword behind a mark at the beginning of the text is a keyword, elsewhere not.
	expectFaultOf(t, "\xef\xbb\xbfSET a", api.Fault{})
	expectFaultOf(t, "\n\xef\xbb\xbfSET a", api.Fault{File: api.AffFile, Line: 2, Code: api.ErrKey})
}

func TestWhatIsAskedBehindAllRowsComesLast(t *testing.T) { // P11.1
	wrongNext := []string{"SFX A Y 1", "SFX A 0 s/B"}
	expectFault(t, 3, api.ErrKey, lists(wrongNext, []string{"wrong"})...)
	expectFault(t, 4, api.ErrCount, lists(wrongNext, []string{"SFX C Y 1"})...)
	expectFault(t, 4, api.ErrTwice, lists(wrongNext, []string{"SET a", "SET a"})...)
	expectFault(t, 2, api.ErrNext, lists(wrongNext, []string{"SET a"})...)
	// Of several such rules the first one is told.
	expectFault(t, 2, api.ErrNext, lists(wrongNext, []string{"SFX C Y 1", "SFX C 0 s/D"})...)
	expectFault(t, 5, api.ErrNext, "SFX A Y 1", "SFX A 0 s/A", "# x", "SFX C Y 1", "SFX C 0 s/D", "SFX E Y 1", "SFX E 0 s/D")
	expectFault(t, 4, api.ErrNext, "SFX A Y 3", "SFX A 0 s/A", "", "SFX A 0 s/B", "SFX A 0 s/C")
}
