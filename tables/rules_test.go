package tables_test

import (
	"fmt"
	"slices"
	"strings"
	"sync"
	"testing"
	"unsafe"

	"hornbook/api"
	"hornbook/tables"
)

// What the document says of all layers, held at this one.

func TestNoCallPanics(t *testing.T) { // P1, rules 5 and 6
	every := make([]byte, 256)
	for i := range every {
		every[i] = byte(i)
	}
	affixes := []string{"", "\n", "\x00", "SFX A Y 0", "SFX A Y 1\nSFX A 0 s/A", "FLAG num\nNEEDAFFIX 65535", "AF 0", "PFX A Y 1024\n" + strings.Repeat("PFX A 0 0\n", 1024), "SFX A Y 1025", string(every), "SET " + string(every[33:127]), strings.Repeat(string(every), 300), strings.Repeat("AF ", 20000)}
	words := []string{"", "0", "1\na", "1\na/A", "8192\n" + strings.Repeat("a\n", 8192), "8193", string(every), "1\n" + string(every[33:]), strings.Repeat(string(every), 300), "1\na/" + long(65000), "1\n" + strings.Repeat("/", 65000)}
	for b := range 256 {
		s := string([]byte{byte(b)})
		affixes = append(affixes, s, "SFX A Y 1\nSFX A 0 s/"+s)
		words = append(words, s, "1\na/"+s)
	}
	all := []*tables.Tables{nil}
	for _, a := range affixes {
		for _, w := range words {
			u, fault := tables.Read(a, w)
			if (u == nil) == (fault == api.Fault{}) {
				t.Fatalf("Read(%.40q, %.40q) = %v, %v", a, w, u, fault)
			}
			if u != nil {
				all = append(all, u)
			}
		}
	}
	numbers := append(places(3), api.MaxRules-1, api.MaxRules, api.MaxEntries-1, api.MaxEntries)
	for _, u := range all {
		for _, n := range numbers {
			u.Rule(n)
			u.Entry(n)
			u.Suffixes(n)
			u.Prefixes(n)
			u.Seconds(n)
			u.Ends(n)
			for _, which := range numbers {
				u.Marked(n, which)
			}
		}
	}
}

// overwrite writes over all that a list can be made to reach.
func overwrite[T any](list []T, with T) {
	all := list[:cap(list)]
	for i := range all {
		all[i] = with
	}
}

// scribble writes over all that the tables answer.
func scribble(u *tables.Tables) {
	for n := range u.Len() {
		e, _ := u.Entry(n)
		overwrite(u.Find(e.Word), 4711)
		overwrite(e.Flags, 60000)
		overwrite(u.Suffixes(n), 4711)
		overwrite(u.Prefixes(n), 4711)
	}
	said := u.Affixes()
	for n := range said.Rules {
		r, _ := u.Rule(n)
		overwrite(r.Next, 60000)
		overwrite(u.Seconds(n), 4711)
		overwrite(said.Rules[n].Next, 60000)
	}
	for _, alias := range said.Aliases {
		overwrite(alias, 60000)
	}
	overwrite(said.Classes, api.Class{})
	overwrite(said.Rules, api.Rule{})
	overwrite(said.Aliases, nil)
	entries := u.Entries()
	for _, e := range entries {
		overwrite(e.Flags, 60000)
	}
	overwrite(entries, api.Entry{})
}

func TestWhatIsAnsweredIsNewMemory(t *testing.T) { // P13.2, P13.3, rule 4
	for _, u := range []*tables.Tables{rich(t), example(t), whole(t)} {
		want := shown(u)
		for range 3 {
			scribble(u)
			if got := shown(u); got != want {
				t.Fatalf("%s\nbecame\n%s", want, got)
			}
		}
	}
}

// TestTwoAnswersShareNoMemory: nor do two of which one comes of the file's and the dictionary's own calls.
func TestTwoAnswersShareNoMemory(t *testing.T) { // P13.2, P13.3, rule 4
	u := rich(t)
	entries, rules := u.Entries(), u.Affixes().Rules
	for n := range rules {
		first, _ := u.Rule(n)
		second, _ := u.Rule(n)
		overwrite(first.Next, 60000)
		if want, _ := rich(t).Rule(n); !sameRule(second, want) || !sameRule(rules[n], want) {
			t.Errorf("two answers share the memory of the rule %d", n)
		}
		expectApart(t, fmt.Sprintf("Seconds(%d)", n), func() []int { return u.Seconds(n) })
	}
	for n := range entries {
		first, _ := u.Entry(n)
		second, _ := u.Entry(n)
		overwrite(first.Flags, 60000)
		if want, _ := rich(t).Entry(n); !sameEntry(second, want) || !sameEntry(entries[n], want) {
			t.Errorf("two answers share the memory of the entry %d", n)
		}
		expectApart(t, fmt.Sprintf("Suffixes(%d)", n), func() []int { return u.Suffixes(n) })
		expectApart(t, fmt.Sprintf("Prefixes(%d)", n), func() []int { return u.Prefixes(n) })
	}
}

func expectApart(t *testing.T, call string, ask func() []int) {
	t.Helper()
	first, second, want := ask(), ask(), slices.Clone(ask())
	overwrite(first, 4711)
	if !slices.Equal(second, want) || !slices.Equal(ask(), want) {
		t.Errorf("two answers of %s share memory", call)
	}
}

func TestSuffixesAndPrefixesShareNoMemory(t *testing.T) { // P13.3, rule 4
	u := rich(t)
	for n := range u.Len() {
		suffixes, prefixes := u.Suffixes(n), u.Prefixes(n)
		want := slices.Clone(prefixes)
		overwrite(suffixes, 4711)
		if !slices.Equal(prefixes, want) {
			t.Errorf("the suffix rules and the prefix rules of the entry %d share memory", n)
		}
	}
}

func TestOfTheTextsNothingIsKept(t *testing.T) { // rule 4
	affixes := rows("SET charset", "TRY abc", "REP 1", "REP from to", "SFX A Y 1", "SFX A strip add/A [^ab]strip")
	words := list("word/A", "plain")
	u := read(t, affixes, words)
	var pieces []string
	for n := range u.Len() {
		e, _ := u.Entry(n)
		pieces = append(pieces, e.Word)
	}
	r, _ := u.Rule(0)
	pieces = append(pieces, r.Strip, r.Add, r.Cond)
	for _, piece := range pieces {
		for _, text := range []string{affixes, words} {
			begin := uintptr(unsafe.Pointer(unsafe.StringData(text)))
			if at := uintptr(unsafe.Pointer(unsafe.StringData(piece))); at >= begin && at < begin+uintptr(len(text)) {
				t.Errorf("%q is a piece of the text", piece)
			}
		}
	}
}

// TestTheTextsStayAsTheyAre: texts that lie in memory which the caller may change later.
func TestTheTextsStayAsTheyAre(t *testing.T) { // rule 4
	affixes, words := []byte("NEEDAFFIX N\nSFX A Y 1\nSFX A y ies/NA [^a]y\n"), []byte("2\nfly/A\nsing/NA\n")
	before := string(affixes) + string(words)
	u := read(t, unsafe.String(&affixes[0], len(affixes)), unsafe.String(&words[0], len(words)))
	want := shown(u)
	scribble(u)
	if after := string(affixes) + string(words); after != before {
		t.Errorf("%q became %q", before, after)
	}
	overwrite(affixes, '?')
	overwrite(words, '?')
	if got := shown(u); got != want {
		t.Errorf("%s\nbecame\n%s", want, got)
	}
}

func TestTablesThatWereReadApart(t *testing.T) { // P2, rule 8
	first, same := rich(t), rich(t)
	want := shown(first)
	others := []*tables.Tables{same, example(t), whole(t), read(t, "", "0")}
	for _, refused := range []string{"x", "SFX A Y 1\nSFX A 0 s/B\n", "SFX 300 Y 1\nSFX 300 0 x\nSFX 300 N 0\n"} {
		tables.Read(refused, "0")
		tables.Read("SFX A Y 0\n", refused)
	}
	for _, u := range others {
		scribble(u)
	}
	if got := shown(first); got != want {
		t.Errorf("%s\nbecame\n%s", want, got)
	}
	if got := shown(same); got != want {
		t.Errorf("the same texts say\n%s\nand\n%s", want, got)
	}
	// The one's rules and entries are none of the other's.
	expectSuffixes(t, others[1], 0, 0, 1)
	expectSuffixes(t, others[2], 5, 2)
	expectNothing(t, others[3], 0)
}

func TestQuestionsChangeNothing(t *testing.T) { // rules 3 and 8
	u := rich(t)
	want := shown(u)
	for range 3 {
		for _, n := range places(8) {
			u.Rule(n)
			u.Entry(n)
			u.Suffixes(n)
			u.Prefixes(n)
			u.Seconds(n)
			u.Ends(n)
			for _, which := range places(api.Specials) {
				u.Marked(n, which)
			}
		}
		u.Find("nothing")
		u.Class(1)
		u.Flags("?")
		u.Write(1)
		if got := shown(u); got != want {
			t.Fatalf("%s\nbecame\n%s", want, got)
		}
	}
}

func TestCallsAtTheSameTime(t *testing.T) { // P2
	u := rich(t)
	want, other := shown(u), shown(whole(t))
	got := make([]string, 16)
	var wait sync.WaitGroup
	for i := range got {
		wait.Go(func() {
			if i%2 == 0 {
				got[i] = shown(u)
			} else if own, fault := tables.Read(wholeAffixes, wholeWords); fault == (api.Fault{}) {
				got[i] = shown(own)
			}
		})
	}
	wait.Wait()
	for i, text := range got {
		if text != []string{want, other}[i%2] {
			t.Errorf("call %d: %s", i, text)
		}
	}
}
