package aff_test

import (
	"fmt"
	"strings"
	"testing"

	"hornbook/api"
)

// fit: a heading of each keyword that can stand alone.
var fit = []string{
	"FLAG short", "SET a", "TRY a", "NEEDAFFIX n", "FORBIDDENWORD f", "KEEPCASE k", "COMPOUNDFLAG c", "NOSUGGEST q",
	"COMPOUNDMIN 1", "REP 0", "AF 0", "PFX p Y 0", "SFX s N 0",
}

// specials: the keywords of the special flags, each at its flag's place.
var specials = [api.Specials]string{
	api.Need: "NEEDAFFIX", api.Forbid: "FORBIDDENWORD", api.Keep: "KEEPCASE", api.Part: "COMPOUNDFLAG", api.Quiet: "NOSUGGEST",
}

func TestEachKeywordIsTakenInJustItsLetters(t *testing.T) { // P11.1
	for _, heading := range fit {
		expectTaken(t, heading)
		name, values, _ := strings.Cut(heading, " ")
		for _, other := range []string{
			strings.ToLower(name), name[:1] + strings.ToLower(name[1:]), name + "S", name + "\x00", name[1:], name[:len(name)-1], "\\" + name, name + "/", "\xef\xbb\xbf" + name, name + ":",
		} {
			expectFault(t, 2, api.ErrKey, "# x", other+" "+values)
		}
		// A key that is none comes ahead of the number of its fields.
		expectFault(t, 1, api.ErrKey, strings.ToLower(name))
	}
	for _, name := range []string{"WORDCHARS", "PHONE", "MAP", "BREAK", "ICONV", "COMPOUNDBEGIN", "A", "0", "5", "fly/S", "/", "\\"} {
		expectFault(t, 1, api.ErrKey, name)
		expectFault(t, 1, api.ErrKey, name+" a")
	}
}

func TestEachHeadingHasItsNumberOfFields(t *testing.T) { // P11.1
	for _, heading := range fit {
		fields := strings.Fields(heading)
		for n := 1; n < len(fields); n++ {
			expectFault(t, 1, api.ErrFields, strings.Join(fields[:n], " "))
		}
		expectFault(t, 1, api.ErrFields, heading+" x")
		expectFault(t, 1, api.ErrFields, heading+" 0")
		expectFault(t, 1, api.ErrFields, heading+" x y")
		// What stands behind a remark's sign is no field.
		expectTaken(t, heading+" # x", "#"+heading)
		expectFault(t, 1, api.ErrFields, strings.Join(fields[:len(fields)-1], " ")+" #"+fields[len(fields)-1])
	}
}

func TestEachHeadingStandsOnceButThoseOfClasses(t *testing.T) { // P11.1
	for _, heading := range fit {
		name, values, _ := strings.Cut(heading, " ")
		switch name {
		case "PFX", "SFX":
			// Another flag: the same one is taken.
			expectTaken(t, heading, name+" 1"+values[1:], name+" 2"+values[1:])
		default:
			expectFault(t, 2, api.ErrTwice, heading, heading)
			expectFault(t, 4, api.ErrTwice, heading, "# x", "", heading)
		}
	}
	expectFault(t, 2, api.ErrTwice, "FLAG long", "FLAG short")
	expectFault(t, 2, api.ErrTwice, "NEEDAFFIX a", "NEEDAFFIX b")
	expectFault(t, 3, api.ErrTwice, "REP 1", "REP a b", "REP 1")
	expectFault(t, 3, api.ErrTwice, "AF 1", "AF a", "AF 1")
	expectFault(t, 3, api.ErrTwice, "REP 1", "REP a b", "REP 0")
}

func TestTheFieldsComeAheadOfTheSecondTimeAndThatAheadOfTheRest(t *testing.T) { // P11.1
	for _, heading := range fit {
		name, _, _ := strings.Cut(heading, " ")
		expectFault(t, 2, api.ErrFields, heading, name)
		expectFault(t, 2, api.ErrFields, heading, heading+" x")
	}
	// Each of these second ones has a fault of its own beside.
	expectFault(t, 3, api.ErrTwice, "FLAG short", "NEEDAFFIX n", "FLAG x")
	expectFault(t, 2, api.ErrTwice, "SET a", "SET \x7f")
	expectFault(t, 2, api.ErrTwice, "TRY a", "TRY \x7f")
	for _, name := range specials {
		expectFault(t, 2, api.ErrTwice, name+" a", name+" a")
		expectFault(t, 2, api.ErrTwice, name+" a", name+" ab")
	}
	expectFault(t, 2, api.ErrTwice, "COMPOUNDMIN 1", "COMPOUNDMIN 0")
	expectFault(t, 2, api.ErrTwice, "REP 0", "REP x")
	expectFault(t, 3, api.ErrTwice, "AF 0", "SFX s N 0", "AF x")
}

func TestFlagTellsTheKind(t *testing.T) { // P11.1, P11.2
	for word, kind := range map[string]int{"short": api.Short, "long": api.Long, "num": api.Numbers} {
		expectSays(t, api.Affixes{Kind: kind, Least: 3}, "FLAG "+word)
	}
	for _, word := range []string{"Short", "LONG", "numbers", "number", "UTF-8", "1", "2", "3", "0", "s", "shor", "short1", "lon", "nu", "\x7f", "/"} {
		expectFault(t, 1, api.ErrValue, "FLAG "+word)
	}
}

func TestFlagStandsAheadOfAllFlags(t *testing.T) { // P11.1
	for _, heading := range fit[1:] {
		for _, word := range []string{"short", "long", "num", "x"} {
			name, _, _ := strings.Cut(heading, " ")
			switch name {
			case "SET", "TRY", "COMPOUNDMIN", "REP":
				if word == "x" {
					expectFault(t, 2, api.ErrValue, heading, "FLAG "+word)
				} else {
					expectTaken(t, heading, "FLAG "+word)
				}
			default: // its place comes ahead of its word
				expectFault(t, 2, api.ErrOrder, heading, "FLAG "+word)
			}
		}
		expectTaken(t, "FLAG short", heading)
	}
	expectTaken(t, "REP 1", "REP a b", "FLAG num")
	expectFault(t, 3, api.ErrOrder, "AF 1", "AF a", "FLAG num")
	expectFault(t, 3, api.ErrOrder, "SFX a Y 1", "SFX a 0 s", "FLAG num")
	for kind, flag := range map[string]string{"short": "a", "long": "ab", "num": "300"} {
		for _, name := range specials {
			expectTaken(t, "FLAG "+kind, name+" "+flag)
		}
		expectTaken(t, "FLAG "+kind, "AF 1", "AF "+flag, "PFX "+flag+" Y 1", "PFX "+flag+" 0 s")
		expectTaken(t, "FLAG "+kind, "SFX "+flag+" Y 1", "SFX "+flag+" 0 s/"+flag)
	}
}

func TestSetHasWordBytesAlone(t *testing.T) { // P11.1, P11.2
	for b := range 256 {
		text := "x" + string([]byte{byte(b)})
		switch {
		case b == ' ' || b == '\t' || b == '\n' || b == '\r': // these are no part of the field at its end
			expectTaken(t, "SET "+text)
		case b < 33 || b == 127:
			expectFault(t, 1, api.ErrWord, "SET "+text)
			expectFault(t, 1, api.ErrWord, "SET "+text+"x")
			expectFault(t, 1, api.ErrWord, "SET "+text[1:]+"x")
		default:
			want := plain()
			want.Charset = text
			expectSays(t, want, "SET "+text)
		}
	}
	expectFault(t, 1, api.ErrWord, "SET a\rb")
	for _, text := range []string{"ISO8859-1", `a\b/c\`, "0", long(65), long(5000)} { // of any length, as it stands
		want := plain()
		want.Charset = text
		expectSays(t, want, "SET "+text)
	}
}

func TestTryIsKeptAsItsLetters(t *testing.T) { // P11.1, P11.2
	for text, letters := range map[string]string{
		"esianrt": "esianrt", "noon": "no", "ESIesi": "ESIesi", "a": "a", "aaa": "a", `\/\#`: `\/#`, "\xc3\xa4\xc3\xb6": "\xc3\xa4\xb6", long(5000): "x", "0": "0",
	} {
		want := plain()
		want.Try = letters
		expectSays(t, want, "TRY "+text)
	}
	for _, text := range []string{"\x7f", "a\x1f", "\x00a", "aa\x7faa", "a\rb", "a\x0b"} {
		expectFault(t, 1, api.ErrWord, "TRY "+text)
	}
}

func TestSpecialFlags(t *testing.T) { // P11.1, P11.2
	for which, name := range specials {
		want := plain()
		want.Specials[which] = 'x'
		expectSays(t, want, name+" x")
		want.Kind = api.Long
		want.Specials[which] = 'x'*256 + 'y'
		expectSays(t, want, "FLAG long", name+" xy")
		want.Kind = api.Numbers
		want.Specials[which] = 65535
		expectSays(t, want, "FLAG num", name+" 65535")

		for _, flag := range []string{"ab", ",", "/", "a,", "\x7f", "\x80", `\a`, "7,8", "a/b"} {
			expectFault(t, 1, api.ErrFlag, name+" "+flag)
		}
		for _, flag := range []string{"a", "abc", "a,", "a/", "abcd", "a#"} {
			expectFault(t, 2, api.ErrFlag, "FLAG long", name+" "+flag)
		}
		for _, flag := range []string{"0", "07", "65536", "7,8", "a", "7,", "-7"} {
			expectFault(t, 2, api.ErrFlag, "FLAG num", name+" "+flag)
		}
	}
}

func TestAFlagIsDefinedOnce(t *testing.T) { // P11.1
	var headings []string
	for _, name := range specials {
		headings = append(headings, name+" x")
	}
	headings = append(headings, "PFX x Y 0", "SFX x N 0")
	for _, first := range headings {
		for _, second := range headings {
			code := api.ErrTaken
			if first == second && len(strings.Fields(first)) == 2 {
				code = api.ErrTwice
			}
			expectFault(t, 2, code, first, second)
			if code == api.ErrTaken { // the other letter is another flag
				expectTaken(t, first, strings.Replace(second, " x", " X", 1))
			}
		}
	}
}

func TestLeast(t *testing.T) { // P11.1, P11.2
	for _, n := range []int{1, 2, 3, 9, 10, 63, api.MaxWord} {
		want := plain()
		want.Least = n
		expectSays(t, want, fmt.Sprintf("COMPOUNDMIN %d", n))
	}
	for _, n := range []string{"0", "65", "100", "00", "01", "-1", "+1", "x", "1x", "1.0", "18446744073709551617", "4294967297", long(999), strings.Repeat("1", 999), "\x7f"} {
		expectFault(t, 1, api.ErrNumber, "COMPOUNDMIN "+n)
	}
}

func TestCountsUpToTheirMost(t *testing.T) { // P11.1, P11.2
	for _, c := range []struct {
		heading, row string
		most         int
	}{
		{"REP ", "REP a b", api.MaxReps},
		{"AF ", "AF a", api.MaxAliases},
		{"PFX a Y ", "PFX a 0 b", api.MaxRules},
		{"SFX a N ", "SFX a 0 b", api.MaxRules},
	} {
		for _, n := range []int{0, 1, 2, c.most - 1, c.most} {
			group := lists([]string{fmt.Sprint(c.heading, n)}, repeated(n, c.row))
			a := affixes(t, group...)
			if got := len(a.Reps) + len(a.Aliases) + len(a.Rules); got != n {
				t.Errorf("%s%d: %d rows were taken", c.heading, n, got)
			}
			// And no more rows than that.
			if n > 0 {
				expectFault(t, n+1, api.ErrCount, group[:n]...)
			}
		}
		for _, n := range []string{fmt.Sprint(c.most + 1), "-1", "-0", "00", "01", "x", "1x", "Y", "1,", "18446744073709551617", "4294967296", long(999), strings.Repeat("1", 999), "\x7f"} {
			expectFault(t, 1, api.ErrNumber, lists([]string{c.heading + n}, repeated(c.most+2, c.row))...)
			expectFault(t, 1, api.ErrNumber, c.heading+n)
		}
	}
}

func TestAliasesStandAheadOfClasses(t *testing.T) { // P11.1
	for _, class := range []string{"PFX a Y 0", "SFX a Y 0"} {
		for _, n := range []string{"0", "1", "x", "1025"} { // its place comes ahead of its number
			expectFault(t, 2, api.ErrOrder, class, "AF "+n)
			expectFault(t, 2, api.ErrOrder, class, "AF "+n, "AF a")
		}
		expectTaken(t, "AF 0", class)
		expectTaken(t, "AF 1", "AF a", class)
	}
	for _, heading := range []string{"FLAG short", "SET a", "TRY a", "NEEDAFFIX n", "COMPOUNDMIN 1", "REP 0"} {
		expectTaken(t, heading, "AF 1", "AF a")
		expectFault(t, 2, api.ErrNumber, heading, "AF x")
	}
}

func TestTheThirdFieldOfAClass(t *testing.T) { // P11.1, P11.2
	for _, name := range []string{"PFX", "SFX"} {
		for _, cross := range []string{"Y", "N"} {
			if a := affixes(t, name+" a "+cross+" 0"); a.Classes[0].Cross != (cross == "Y") {
				t.Errorf("%s %s: %v", name, cross, a.Classes)
			}
		}
		for _, other := range []string{"y", "n", "YN", "YY", "yes", "0", "1", "/", "\x7f"} {
			expectFault(t, 1, api.ErrValue, name+" a "+other+" 0")
		}
	}
}

func TestTheFaultsOfAClassInTheirOrder(t *testing.T) { // P11.1
	full := lists([]string{"SFX z Y 1024"}, repeated(1024, "SFX z 0 s"))
	for _, name := range []string{"PFX", "SFX"} {
		behind := func(heading string, code api.Errno) {
			t.Helper()
			expectFault(t, len(full)+1, code, lists(full, []string{name + " " + heading})...)
		}
		behind("zz y x", api.ErrFlag)
		behind("z y x", api.ErrTaken)
		behind("z Y 0", api.ErrTaken)
		behind("a y x", api.ErrValue)
		behind("a y 1", api.ErrValue)
		behind("a Y x", api.ErrNumber)
		behind("a Y 1025", api.ErrNumber)
		behind("a Y 1024", api.ErrRules)
		behind("a Y 1", api.ErrRules)
		expectTaken(t, lists(full, []string{name + " a Y 0"})...)
	}
}

func TestTheCountsOfAllClassesTogether(t *testing.T) { // P11.1
	rules := func(name, flag string, n int) []string {
		return lists([]string{fmt.Sprintf("%s %s N %d", name, flag, n)}, repeated(n, name+" "+flag+" 0 s"))
	}
	ahead := lists(rules("SFX", "a", 500), rules("PFX", "b", 500), rules("SFX", "c", 0), rules("SFX", "d", 23))
	expectTaken(t, lists(ahead, rules("PFX", "e", 1))...)
	expectTaken(t, lists(ahead, rules("PFX", "e", 0), rules("SFX", "f", 1), rules("SFX", "g", 0))...)
	// It is told at the heading, ahead of its rows.
	expectFault(t, len(ahead)+1, api.ErrRules, lists(ahead, rules("PFX", "e", 2))...)
	expectFault(t, len(ahead)+1, api.ErrRules, lists(ahead, []string{"SFX e Y 2"})...)
	expectFault(t, len(ahead)+3, api.ErrRules, lists(ahead, rules("PFX", "e", 1), rules("SFX", "f", 1))...)
	expectFault(t, len(ahead)+1, api.ErrRules, lists(ahead, []string{"SFX e Y 1024"})...)
}
