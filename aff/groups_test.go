package aff_test

import (
	"strings"
	"testing"

	"hornbook/api"
)

// groups: a heading with two rows, and a row that goes with it.
var groups = []struct{ heading, row string }{
	{"REP 2", "REP a b"},
	{"AF 2", "AF a"},
	{"PFX a Y 2", "PFX a 0 b"},
	{"SFX a Y 2", "SFX a 0 b"},
}

func TestAGroupThatEndsWithTheText(t *testing.T) { // P11.1
	for _, g := range groups {
		for _, c := range []struct {
			text string
			line int
		}{
			{g.heading, 2},
			{g.heading + "\n", 2},
			{g.heading + "\r\n", 2},
			{g.heading + "\n" + g.row, 3},
			{g.heading + "\n" + g.row + "\n", 3},
			// All lines count, also those without a row.
			{g.heading + "\n" + g.row + "\n\n", 4},
			{g.heading + "\n" + g.row + "\n\n#", 5},
			{g.heading + "\n\n\n" + g.row + "\n# x\n \n", 7},
			{"\xef\xbb\xbf" + g.heading + "\n" + g.row, 3},
			{"\n\n" + g.heading + "\n\r", 5},
			{g.heading + strings.Repeat("\n", 1000), 1001},
		} {
			expectFaultOf(t, c.text, api.Fault{File: api.AffFile, Line: c.line, Code: api.ErrCount})
		}
		expectTaken(t, g.heading, g.row, g.row)
		expectTaken(t, g.heading, "", g.row, "# x", "", g.row, "", "#")
	}
}

func TestAGroupThatEndsByAnotherRow(t *testing.T) { // P11.1
	for _, g := range groups {
		for _, other := range []string{
			"SET x", "wrong", "FLAG long", strings.ToLower(g.row), g.row[1:], "x " + g.row,
			// These would be at fault as headings too: that is not asked.
			"SET", "FLAG x", "COMPOUNDMIN 0",
		} {
			expectFault(t, 2, api.ErrCount, g.heading, other, g.row, g.row)
			expectFault(t, 3, api.ErrCount, g.heading, g.row, other, g.row)
			expectFault(t, 5, api.ErrCount, g.heading, g.row, "", "# x", other)
		}
		for _, others := range groups {
			if others.row != g.row {
				expectFault(t, 3, api.ErrCount, g.heading, g.row, others.row)
			}
		}
		// One row more is a heading.
		if _, fault := readRows(g.heading, g.row, g.row, g.row); fault.Line != 4 || fault.Code == api.ErrCount {
			t.Errorf("%s and three rows: %v", g.heading, fault)
		}
	}
}

func TestTheRowsOfAClassNameItsFlag(t *testing.T) { // P11.1
	for _, name := range []string{"PFX", "SFX"} {
		for _, row := range []string{name, name + " b", name + " b 0 s", name + " A 0 s", name + " aa 0 s", name + " 0 s", name + " # a 0 s"} {
			expectFault(t, 2, api.ErrCount, name+" a Y 1", row)
		}
		for _, row := range []string{name + " 8 0 s", name + " 07 0 s", name + " 7,7 0 s", name + " 70 0 s", name} {
			expectFault(t, 3, api.ErrCount, "FLAG num", name+" 7 Y 1", row)
		}
		expectFault(t, 3, api.ErrCount, "FLAG long", name+" ab Y 1", name+" ba 0 s")
		expectTaken(t, "FLAG long", name+" ab Y 1", name+" ab 0 s")
	}
	expectFault(t, 2, api.ErrCount, "PFX a Y 1", "SFX a 0 s")
	expectFault(t, 2, api.ErrCount, "SFX a Y 1", "PFX a 0 s")
	// A row of the group may look like a heading.
	expectTaken(t, "SFX a Y 1", "SFX a Y 1")
	expectTaken(t, "REP 1", "REP 1 1")
	expectTaken(t, "AF 1", "AF 1")
}

func TestTheFieldsOfAReplacement(t *testing.T) { // P11.1, P11.2
	for _, row := range []string{"REP", "REP a", "REP a b c", "REP a b c d", "REP 0", "REP a # b", "REP \x7f", `REP \ / \`} {
		expectFault(t, 2, api.ErrFields, "REP 1", row)
	}
	want := plain()
	want.Reps = []api.Rep{{From: "b", To: "a"}, {From: "a", To: ""}, {From: "0", To: "00"}, {From: "b", To: "a"}, {From: "#/", To: `\`}}
	expectSays(t, want, "REP 5", "REP b a", "REP a 0", "REP 0 00", "REP b a", `REP \#\/ \\`)
}

func TestTheFieldsOfAnAlias(t *testing.T) { // P11.1, P11.2
	for _, row := range []string{"AF", "AF a b", "AF a b c", "AF / b", "AF # a"} {
		expectFault(t, 2, api.ErrFields, "AF 1", row)
	}
	for _, set := range []string{"a,", "a/b", "/", "ä", "a\x7f", `\,`, "a#,"} {
		expectFault(t, 2, api.ErrFlag, "AF 1", "AF "+set)
	}
	expectFault(t, 3, api.ErrFlag, "FLAG long", "AF 1", "AF abc")
	expectFault(t, 3, api.ErrFlag, "FLAG num", "AF 1", "AF 7,,8")
	expectFault(t, 3, api.ErrFlag, "FLAG num", "AF 1", "AF 0")
	expectFault(t, 2, api.ErrMany, "AF 1", "AF "+long(65))
	expectTaken(t, "AF 1", "AF "+long(64))
	// The flags of an alias needn't be defined, and what an alias was stands for nothing in the next one.
	want := plain()
	want.Aliases = [][]api.Flag{{'a', 'b'}, {'1'}, {'a', 'b'}, {'2', 'z'}}
	expectSays(t, want, "AF 4", "AF baab", "AF 1", "AF ab", "AF z2")
	want = api.Affixes{Kind: api.Numbers, Least: 3, Aliases: [][]api.Flag{{7, 300, 65535}}}
	expectSays(t, want, "FLAG num", "AF 1", "AF 65535,300,7,300")
}

// pieces: where a piece stands in a row of a group, written with a %; and whether it may be 0.
var pieces = []struct {
	heading, row string
	orNone       bool
}{
	{"REP 1", "REP % a", false},
	{"REP 1", "REP a %", true},
	{"PFX f Y 1", "PFX f % a", true},
	{"SFX f Y 1", "SFX f % a", true},
	{"SFX f Y 1", "SFX f % a .", true},
}

func piece(a api.Affixes, row string) string {
	switch {
	case strings.HasPrefix(row, "REP %"):
		return a.Reps[0].From
	case strings.HasPrefix(row, "REP"):
		return a.Reps[0].To
	}
	return a.Rules[0].Strip
}

func TestAPiece(t *testing.T) { // P11.1, P11.2
	for _, p := range pieces {
		for field, text := range map[string]string{
			"a": "a", "00": "00", "0a": "0a", ".": ".", "a#": "a#", `\#`: "#", `\/`: "/", `\\`: `\`, `a\/b\\`: `a/b\`, "\xff\x80": "\xff\x80", "!": "!", "~": "~",
			long(api.MaxAffix): long(api.MaxAffix), strings.Repeat(`\/`, api.MaxAffix): strings.Repeat("/", api.MaxAffix),
		} {
			if got := piece(affixes(t, p.heading, strings.Replace(p.row, "%", field, 1)), p.row); got != text {
				t.Errorf("%s with %q: %q", p.row, field, got)
			}
		}
		want := "0"
		if p.orNone {
			want = ""
		}
		if got := piece(affixes(t, p.heading, strings.Replace(p.row, "%", "0", 1)), p.row); got != want {
			t.Errorf("%s with 0: %q", p.row, got)
		}
	}
}

func TestWhatIsNoPiece(t *testing.T) { // P11.1
	tooLong := long(api.MaxAffix + 1)
	for _, p := range pieces {
		for code, fields := range map[api.Errno][]string{
			// Each but the last has the faults behind it too, as far as they go together.
			api.ErrEscape: {`\`, `\a`, `a\`, `\0`, `a\ `, "\x7f" + `\x`, tooLong + `\x`, `\\\`, tooLong + "\x7f" + `\x/`},
			api.ErrValue:  {"/", "a/", "/a", "a/b", "0/", "0/0", "/0", "a//", `a/\`, "\x7f/", tooLong + "/", tooLong + "\x7f/a"},
			api.ErrWord:   {"\x7f", "\x00", "a\x1f", "\x0ba", "a\rb", tooLong + "\x7f", "\x7f" + tooLong},
			api.ErrSize:   {tooLong, long(9999), strings.Repeat("0", 33), strings.Repeat(`\#`, 33), tooLong + `\\`},
		} {
			for _, field := range fields {
				expectFault(t, 2, code, p.heading, strings.Replace(p.row, "%", field, 1))
			}
		}
	}
}

func TestEveryByteOfAPiece(t *testing.T) { // P11.1
	for _, p := range pieces {
		for b := range 256 {
			row := strings.Replace(p.row, "%", "x"+string([]byte{byte(b)})+"x", 1)
			switch {
			case b == ' ' || b == '\t' || b == '\n': // these part the field, and so the row
			case b == '/':
				expectFault(t, 2, api.ErrValue, p.heading, row)
			case b == '\\':
				expectFault(t, 2, api.ErrEscape, p.heading, row)
			case b < 33 || b == 127:
				expectFault(t, 2, api.ErrWord, p.heading, row)
			default:
				expectTaken(t, p.heading, row)
			}
		}
	}
}

func TestTheFieldsOfARule(t *testing.T) { // P11.1
	for _, name := range []string{"PFX", "SFX"} {
		heading := name + " a Y 1"
		expectFault(t, 2, api.ErrFields, heading, name+" a")
		expectFault(t, 2, api.ErrFields, heading, name+" a 0")
		expectFault(t, 2, api.ErrFields, heading, name+` a \`)
		expectTaken(t, heading, name+" a 0 s")
		expectTaken(t, heading, name+" a 0 s .")
		expectTaken(t, heading, name+" a 0 s # . . .")
		expectFault(t, 2, api.ErrFields, heading, name+" a 0 s . .")
		expectFault(t, 2, api.ErrFields, heading, name+` a \ \ [ x`)
		expectFault(t, 2, api.ErrFields, heading, name+" a 0 s . . .")
	}
}

func TestWhatARuleAdds(t *testing.T) { // P11.1, P11.2
	tooLong := long(api.MaxAffix + 1)
	for _, name := range []string{"PFX", "SFX"} {
		for field, add := range map[string]string{
			"0": "", "s": "s", "00": "00", "0s": "0s", `\/`: "/", `\#`: "#", `\\`: `\`, "a#": "a#", "\xff": "\xff", ".": ".",
			long(api.MaxAffix): long(api.MaxAffix), strings.Repeat(`\#`, api.MaxAffix): strings.Repeat("#", api.MaxAffix),
		} {
			for _, cond := range []string{"", " .", " [ab]c"} {
				if got := affixes(t, name+" a Y 1", name+" a 0 "+field+cond).Rules[0]; got.Add != add || got.Strip != "" || len(got.Next) != 0 {
					t.Errorf("%s %q: %v", name, field, got)
				}
			}
		}
		for code, fields := range map[api.Errno][]string{
			api.ErrEscape: {`\`, `\a`, `s\`, `\0`, `0\`, tooLong + `\s`, "\x7f" + `\s/`, `\s/A`},
			api.ErrWord:   {"\x7f", "s\x1f", "\x00", "/", "/a", "/0", "//", tooLong + "\x7f", "\x7f/", "\x7f/a"},
			api.ErrSize:   {tooLong, strings.Repeat("0", 33), strings.Repeat(`\/`, 33), tooLong + "/", tooLong + "/a"},
		} {
			for _, field := range fields {
				expectFault(t, 2, code, name+" a Y 1", name+" a 0 "+field)
			}
		}
	}
}

func TestASlashInAPrefixRule(t *testing.T) { // P11.1
	for _, field := range []string{"s/", "s/a", "0/", "0/a", "s/\x7f", `s/\`, "s//", "s/1"} {
		expectFault(t, 2, api.ErrNext, "PFX a Y 1", "PFX a 0 "+field)
		expectFault(t, 2, api.ErrNext, "PFX a Y 1", "PFX a 0 "+field+" [")
		expectFault(t, 4, api.ErrNext, "AF 1", "AF a", "PFX a Y 1", "PFX a 0 "+field)
	}
	expectTaken(t, "PFX a Y 1", `PFX a 0 s\/a`)
}

func TestASlashInASuffixRule(t *testing.T) { // P11.1, P11.2
	for field, want := range map[string]api.Rule{
		"s/a": {Add: "s", Next: []api.Flag{'a'}}, "0/a": {Next: []api.Flag{'a'}}, "s/baab": {Add: "s", Next: []api.Flag{'a', 'b'}}, `\//b`: {Add: "/", Next: []api.Flag{'b'}}, "s/" + strings.Repeat("ab", 32): {Add: "s", Next: []api.Flag{'a', 'b'}},
	} {
		want.Kind, want.Flag, want.Cross, want.Cond = api.Suffix, 'a', true, "."
		if got := affixes(t, "SFX a Y 1", "SFX a 0 "+field, "SFX b Y 0").Rules[0]; !sameRule(got, want) {
			t.Errorf("%q: %v; want %v", field, got, want)
		}
	}
	for _, field := range []string{"s/", "0/", "s/a,", "s/a/", "s//", "s/\x7f", `s/\a,`, "s/a,b"} {
		expectFault(t, 2, api.ErrFlag, "SFX a Y 1", "SFX a 0 "+field)
		expectFault(t, 2, api.ErrFlag, "SFX a Y 1", "SFX a 0 "+field+" [")
	}
	expectFault(t, 2, api.ErrMany, "SFX a Y 1", "SFX a 0 s/"+strings.Repeat("a", 65))
	expectFault(t, 3, api.ErrFlag, "FLAG long", "SFX aa Y 1", "SFX aa 0 s/a")
	expectFault(t, 3, api.ErrFlag, "FLAG num", "SFX 7 Y 1", "SFX 7 0 s/a")
	// Without a count above 0 there are no aliases.
	expectTaken(t, "AF 0", "SFX a Y 1", "SFX a 0 s/a")
	expectFault(t, 3, api.ErrNext, "AF 0", "SFX a Y 1", "SFX a 0 s/1")
	expectFault(t, 3, api.ErrFlag, "AF 0", "SFX a Y 1", "SFX a 0 s/")
}

func TestASlashInASuffixRuleWithAliases(t *testing.T) { // P11.1, P11.2
	ahead := []string{"AF 3", "AF ba", "AF a", "AF ba", "SFX a Y 1"}
	for number, next := range map[string][]api.Flag{"1": {'a', 'b'}, "2": {'a'}, "3": {'a', 'b'}} {
		a := affixes(t, lists(ahead, []string{"SFX a 0 s/" + number, "SFX b Y 0"})...)
		if got := a.Rules[0].Next; len(got) != len(next) || got[0] != next[0] || got[len(got)-1] != next[len(next)-1] {
			t.Errorf("alias %s: %v", number, got)
		}
	}
	for _, number := range []string{"0", "4", "", "01", "a", "ba", "1,2", "-1", "1/", "18446744073709551617", strings.Repeat("1", 99)} {
		expectFault(t, 6, api.ErrNumber, lists(ahead, []string{"SFX a 0 s/" + number, "SFX b Y 0"})...)
		expectFault(t, 6, api.ErrNumber, lists(ahead, []string{"SFX a 0 s/" + number + " [", "SFX b Y 0"})...)
	}
	expectFault(t, 6, api.ErrNext, lists(ahead, []string{"SFX a 0 s/1"})...)
	expectTaken(t, lists(ahead, []string{"SFX a 0 s/2"})...)
}

func TestTheCondition(t *testing.T) { // P11.1, P11.2
	for _, name := range []string{"PFX", "SFX"} {
		for field, cond := range map[string]string{
			"": ".", ".": ".", "..": "..", "[^uoiea]y": "[^aeiou]y", "[ba]b[b]": "[ab]bb", "[aab]": "[ab]", "[^^a]": "[^^a]", "[a^a]": "[a^]", "]": "]", "[.]": "[.]", "[#]": "#", "a#": "a#", `\`: `\`, "/": "/", "[/]a/b": "/a/b", "0": "0", "\xff[\x80]": "\xff\x80",
			long(api.MaxItems): long(api.MaxItems), "[" + long(api.MaxPattern-2) + "]": "x",
		} {
			if got := affixes(t, name+" a Y 1", name+" a 0 s "+field).Rules[0].Cond; got != cond {
				t.Errorf("%s with the condition %q: %q", name, field, got)
			}
		}
		for code, fields := range map[api.Errno][]string{
			api.ErrWord:    {"\x7f", "a\x1f", "[\x7f]", "[\x00", "\x7f" + long(api.MaxPattern), "a\rb[", long(api.MaxItems) + "\x7f", "[]\x7f"},
			api.ErrPattern: {long(api.MaxPattern + 1), "[" + long(api.MaxPattern), "[" + long(api.MaxPattern-1) + "]", long(9999)},
			api.ErrClass:   {"[", "a[", "[]", "[^]", "a[^]", "[]a]", "[^", "[ab", long(api.MaxItems+1) + "["},
			api.ErrItems:   {long(api.MaxItems + 1), strings.Repeat("[ab]", 17), strings.Repeat(".", 17), long(api.MaxPattern)},
		} {
			for _, field := range fields {
				expectFault(t, 2, code, name+" a Y 1", name+" a 0 s "+field)
			}
		}
	}
}

func TestTheFaultsOfARuleInTheirOrder(t *testing.T) { // P11.1
	for _, name := range []string{"PFX", "SFX"} {
		behind := func(row string, code api.Errno) {
			t.Helper()
			expectFault(t, 2, code, name+" a Y 1", row)
		}
		behind(name+` b \ \ [ [`, api.ErrCount)
		behind(name+` a \ \ [ [`, api.ErrFields)
		behind(name+` a x/ \ [`, api.ErrValue)
		behind(name+" a \x7f \\ [", api.ErrWord)
		behind(name+` a `+long(33)+` \ [`, api.ErrSize)
		behind(name+" a 0 \\ \x7f", api.ErrEscape)
		behind(name+" a 0 "+long(33)+"/, \x7f", api.ErrSize)
		behind(name+" a 0 s \x7f[", api.ErrWord)
		behind(name+" a 0 s [", api.ErrClass)
	}
	expectFault(t, 2, api.ErrNext, "PFX a Y 1", "PFX a 0 s/, \x7f")
	expectFault(t, 2, api.ErrFlag, "SFX a Y 1", "SFX a 0 s/, \x7f")
	// In a replacement From comes ahead of To.
	expectFault(t, 2, api.ErrSize, "REP 1", `REP `+long(33)+` \`)
	expectFault(t, 2, api.ErrValue, "REP 1", "REP a/ \x7f")
	// A row's fault comes ahead of that of the next row, and of the missing ones.
	expectFault(t, 2, api.ErrSize, "REP 3", "REP a "+long(33), `REP \ a`)
	expectFault(t, 2, api.ErrClass, "SFX a Y 3", "SFX a 0 s [", "SFX b 0 s")
}

func TestWhatMayGoOnFromARule(t *testing.T) { // P11.1
	rule := []string{"SFX a Y 1", "SFX a 0 s/b"}
	// Wherever its heading stands.
	expectTaken(t, lists([]string{"SFX b N 0"}, rule)...)
	expectTaken(t, lists(rule, []string{"SFX b N 0"})...)
	expectTaken(t, lists(rule, []string{"SFX b N 1", "SFX b 0 s"})...)
	expectTaken(t, lists([]string{"NEEDAFFIX b"}, rule)...)
	expectTaken(t, lists(rule, []string{"NEEDAFFIX b"})...)
	expectTaken(t, "SFX a Y 1", "SFX a 0 s/a")

	expectFault(t, 2, api.ErrNext, rule...)
	expectFault(t, 2, api.ErrNext, lists(rule, []string{"SFX c Y 0", "NEEDAFFIX n"})...)
	expectFault(t, 2, api.ErrNext, lists(rule, []string{"PFX b Y 0"})...)
	expectFault(t, 3, api.ErrNext, lists([]string{"PFX b Y 0"}, rule)...)
	expectFault(t, 3, api.ErrNext, lists([]string{"SFX B Y 0"}, rule)...)
	for _, name := range specials[1:] {
		expectFault(t, 2, api.ErrNext, lists(rule, []string{name + " b"})...)
		expectFault(t, 3, api.ErrNext, lists([]string{name + " b"}, rule)...)
	}
	// Each flag of a set is asked.
	for _, set := range []string{"xab", "axb", "abx", "x"} {
		expectFault(t, 2, api.ErrNext, "SFX a Y 1", "SFX a 0 s/"+set, "SFX b Y 0", "NEEDAFFIX n")
	}
	expectTaken(t, "SFX a Y 1", "SFX a 0 s/nabn", "SFX b Y 0", "NEEDAFFIX n")
	// A set of an alias is asked as well, but only where a rule names it.
	expectFault(t, 5, api.ErrNext, "AF 2", "AF a", "AF ax", "SFX a Y 1", "SFX a 0 s/2")
	expectTaken(t, "AF 2", "AF a", "AF ax", "SFX a Y 1", "SFX a 0 s/1")
}
