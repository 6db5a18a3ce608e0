package aff_test

import (
	"fmt"
	"slices"
	"strings"
	"sync"
	"testing"
	"unsafe"

	"hornbook/aff"
	"hornbook/api"
	"hornbook/flags"
)

// What the document says of all layers, held at this one.

// rich: a file that has something of all.
var rich = []string{
	"FLAG num", "SET UTF-8", "TRY noon", "NEEDAFFIX 1", "FORBIDDENWORD 2", "KEEPCASE 3", "COMPOUNDFLAG 4", "NOSUGGEST 5", "COMPOUNDMIN 2",
	"REP 3", "REP f ph", "REP alot lot", "REP aa 0", "AF 3", "AF 7,300,9", "AF 300", "AF 9,7",
	"PFX 8 N 1", "PFX 8 re under [ab]", "SFX 7 Y 3", "SFX 7 ying ies/1 [^aeiou]y", "SFX 7 0 ss/3", "SFX 7 0 es", "SFX 300 N 1", "SFX 300 0 er/1 [lk]l", "SFX 9 Y 0",
}

func TestNoCallPanics(t *testing.T) { // P1, rules 5 and 6
	every := make([]byte, 256)
	for i := range every {
		every[i] = byte(i)
	}
	texts := []string{"", "\n", "#", "\x00", string(every), strings.Repeat(string(every), 256), strings.Repeat(string(every), 300), strings.Repeat("SFX A Y 0\n", 9999), strings.Repeat("SFX\n", 16384)}
	for _, heading := range fit {
		name, _, _ := strings.Cut(heading, " ")
		for n := range 7 {
			for _, field := range []string{" 0", " 1", " a", " Y", ` \`, " /", " [", " 1024", " " + string(every[33:])} {
				row := name + strings.Repeat(field, n)
				texts = append(texts, row, heading+"\n"+row, strings.Replace(heading, "0", "1", 1)+"\n"+row, row+"\n"+row)
			}
		}
	}
	files := []*aff.File{nil, {}, read(t), read(t, rich...), read(t, "FLAG long"), read(t, "AF 0")}
	for _, text := range texts {
		f, fault := aff.Read(text)
		if (f == nil) == (fault == api.Fault{}) {
			t.Errorf("Read(%.40q) = %v, %v", text, f, fault)
		}
		files = append(files, f)
	}
	for _, f := range files {
		f.Affixes()
		for _, flag := range []api.Flag{0, 1, 7, 'A', 65535} {
			f.Class(flag)
		}
		for _, s := range []string{"", "0", "1", "3", "4", "A", "AB", "7,300", string(every), strings.Repeat("1", 99999)} {
			f.Flags(s)
		}
		for _, fs := range []flags.Set{nil, {}, {0}, {65535}, {300, 7, 300}, distinct(5000)} {
			f.Write(fs...)
		}
	}
}

// scribble writes over all that the lists of an answer can be made to reach.
func scribble(a api.Affixes) {
	for _, alias := range a.Aliases {
		scribbleSet(alias)
	}
	for _, rule := range a.Rules {
		scribbleSet(rule.Next)
	}
	overwrite(a.Reps, api.Rep{From: "?", To: "?"})
	overwrite(a.Aliases, []api.Flag{60000})
	overwrite(a.Classes, api.Class{Flag: 60000})
	overwrite(a.Rules, api.Rule{Add: "?"})
}

func scribbleSet(set []api.Flag) { overwrite(set, 60000) }

func overwrite[T any](list []T, with T) {
	all := list[:cap(list)]
	for i := range all {
		all[i] = with
	}
}

func TestWhatIsAnsweredIsNewMemory(t *testing.T) { // P11.2 to P11.5, rule 4
	f, want := read(t, rich...), affixes(t, rich...)
	for round := range 3 {
		first, second := f.Affixes(), f.Affixes()
		scribble(first)
		if !same(second, want) {
			t.Fatalf("round %d: two answers share memory: %s", round, shown(second))
		}
		for s, set := range map[string]flags.Set{"1": {7, 9, 300}, "2": {300}, "3": {7, 9}} {
			got, _ := f.Flags(s)
			scribbleSet(got)
			if !same(second, want) {
				t.Fatalf("Flags(%q) shares memory with what Affixes answered", s)
			}
			expectFlags(t, f, s, set...)
			expectWritten(t, f, s, set...)
		}
		if again := f.Affixes(); !same(again, want) {
			t.Fatalf("round %d: an answer shares memory with the file: %s", round, shown(again))
		}
		if c, ok := f.Class(300); !ok || c != want.Classes[2] {
			t.Fatalf("round %d: Class(300) = %v, %v", round, c, ok)
		}
	}
}

func TestTheListsOfAnAnswerShareNoMemory(t *testing.T) { // P11.2, rule 4
	want := affixes(t, rich...)
	sets := func(a api.Affixes) [][]api.Flag {
		all := slices.Clone(a.Aliases)
		for _, rule := range a.Rules {
			all = append(all, rule.Next)
		}
		return all
	}
	for i := range sets(want) {
		a := affixes(t, rich...)
		scribbleSet(sets(a)[i])
		for j, set := range sets(a) {
			if j != i && !slices.Equal(set, sets(want)[j]) {
				t.Errorf("the sets %d and %d share memory", i, j)
			}
		}
	}
	a := affixes(t, rich...)
	overwrite(a.Aliases, nil)
	overwrite(a.Rules, api.Rule{})
	if !slices.Equal(a.Classes, want.Classes) || !slices.Equal(a.Reps, want.Reps) {
		t.Errorf("the lists share memory")
	}
}

func TestOfTheTextNothingIsKept(t *testing.T) { // rule 4
	text := rows(rich...)
	f, _ := aff.Read(text)
	a := f.Affixes()
	kept := []string{a.Charset, a.Try}
	for _, rep := range a.Reps {
		kept = append(kept, rep.From, rep.To)
	}
	for _, rule := range a.Rules {
		kept = append(kept, rule.Strip, rule.Add, rule.Cond)
	}
	begin := uintptr(unsafe.Pointer(unsafe.StringData(text)))
	for _, s := range kept {
		if at := uintptr(unsafe.Pointer(unsafe.StringData(s))); s != "" && at >= begin && at < begin+uintptr(len(text)) {
			t.Errorf("%q is a piece of the text", s)
		}
	}
}

func TestWhatIsHandedInStaysAsItIs(t *testing.T) { // P11.5, rule 4
	const inTheRoom = 4711
	for _, f := range []*aff.File{nil, read(t), read(t, "FLAG num"), read(t, rich...)} {
		for _, fs := range [][]api.Flag{{300, 7, 300, 9}, {9, 7, 7}, {300}, {}, {0, 5}} {
			// Behind the list's length lies what no call may read or write.
			list := append(slices.Clone(fs), slices.Repeat([]api.Flag{inTheRoom}, 9)...)
			text, e := f.Write(list[:len(fs)]...)
			plainText, plainE := f.Write(fs...)
			if text != plainText || e != plainE {
				t.Errorf("Write(%v) reads what lies behind its list", fs)
			}
			room := list[len(fs):]
			if !slices.Equal(list[:len(fs)], fs) || slices.ContainsFunc(room, func(f api.Flag) bool { return f != inTheRoom }) {
				t.Errorf("Write(%v) writes into its list: %v", fs, list)
			}
		}
	}
}

func TestFilesThatWereReadApart(t *testing.T) { // P2, rule 8
	first := read(t, rich...)
	want := first.Affixes()
	others := []*aff.File{read(t), read(t, "FLAG long", "AF 1", "AF aabb", "SFX aa Y 1", "SFX aa 0 x/1", "SFX bb Y 0"), read(t, rich...)}
	for _, text := range []string{"wrong", "SFX A Y 1\nSFX A 0 s/B\n", rows(rich[:20]...), strings.Repeat("x", 70000)} {
		aff.Read(text)
	}
	for _, f := range others {
		f.Flags("1")
		f.Flags("9")
		f.Write(7, 300)
		scribble(f.Affixes())
	}
	if got := first.Affixes(); !same(got, want) {
		t.Errorf("%s became %s", shown(want), shown(got))
	}
	if got := others[2].Affixes(); !same(got, want) {
		t.Errorf("the same text says %s and %s", shown(want), shown(got))
	}
	if got := affixes(t); !same(got, plain()) {
		t.Errorf("a file that says nothing: %s", shown(got))
	}
	// What a refused text said is forgotten.
	aff.Read("SET x\nTRY x\nNEEDAFFIX x\nREP 0\nAF 1\nAF x\nSFX y Y 0\nwrong\n")
	expectTaken(t, "SET x", "TRY x", "NEEDAFFIX y", "REP 0", "AF 1", "AF x", "SFX x Y 0")
}

func TestARefusedQuestionChangesNothing(t *testing.T) { // rule 3
	f := read(t, rich...)
	want := f.Affixes()
	for range 3 {
		expectNoFlags(t, f, "9", api.ErrNumber)
		expectNotWritten(t, f, api.ErrFlag, 1, 2)
		f.Class(1)
	}
	if got := f.Affixes(); !same(got, want) {
		t.Errorf("%s became %s", shown(want), shown(got))
	}
	expectFlags(t, f, "2", 300)
	expectWritten(t, f, "2", 300)
}

func TestCallsAtTheSameTime(t *testing.T) { // P2
	shared := read(t, rich...)
	var wait sync.WaitGroup
	got := make([]string, 16)
	for i := range got {
		wait.Go(func() {
			f, fault := aff.Read(fmt.Sprintf("SET x%d\nSFX A Y 1\nSFX A 0 s/%c\n", i%2, 'A'+rune(i%2)))
			set, _ := shared.Flags("3")
			text, _ := shared.Write(300)
			c, _ := shared.Class(7)
			got[i] = fmt.Sprintf("%s %v %v %s %d %d", f.Affixes().Charset, fault, set, text, c.Count, len(shared.Affixes().Rules))
		})
	}
	wait.Wait()
	for i, s := range got {
		fault := []api.Fault{{}, {File: api.AffFile, Line: 3, Code: api.ErrNext}}[i%2]
		if want := fmt.Sprintf("%s %v [7 9] 2 3 5", []string{"x0", ""}[i%2], fault); s != want {
			t.Errorf("call %d: %q; want %q", i, s, want)
		}
	}
}
