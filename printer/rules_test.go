package printer_test

import (
	"fmt"
	"strings"
	"sync"
	"testing"
	"unsafe"

	"hornbook/aff"
	"hornbook/api"
	"hornbook/dic"
	"hornbook/printer"
	"hornbook/tables"
)

// What the document says of all layers, held at this one.

// printed: all that is answered of the tables.
func printed(u *tables.Tables) string {
	affixes, e := printer.Aff(u)
	words, f := printer.Dic(u)
	return fmt.Sprintf("%q %d\n%q %d\n%v", affixes, e, words, f, printer.Same(u, u))
}

// notRead: tables that Read didn't make; some of them have flags that the other file can't write.
func notRead(t *testing.T) []*tables.Tables {
	t.Helper()
	short, numbers, aliases := read(t, "KEEPCASE K\nSFX A Y 1\nSFX A 0 s/A\n", "2\na/AK\nb\n"), rich(t), read(t, "AF 1\nAF A\nSFX A Y 1\nSFX A 0 s/1\n", "1\na/1\n")
	all := []*tables.Tables{{}, {File: &aff.File{}, Words: &dic.Words{}}}
	for _, file := range []*aff.File{nil, {}, short.File, numbers.File, aliases.File} {
		for _, words := range []*dic.Words{nil, {}, short.Words, numbers.Words, aliases.Words} {
			all = append(all, &tables.Tables{File: file, Words: words})
			for _, u := range []*tables.Tables{rich(t), read(t, "", "0")} {
				u.File, u.Words = file, words
				all = append(all, u)
			}
		}
	}
	return all
}

func TestNoCallPanics(t *testing.T) { // P1
	all := append(notRead(t), nil, rich(t), read(t, "", "0"), read(t, wholeAffixes, wholeWords))
	for _, u := range all {
		for _, print := range []func(*tables.Tables) (string, api.Errno){printer.Aff, printer.Dic} {
			// Rule 2: beside an error there is no text.
			if text, e := print(u); (text == "") != (e != api.OK) {
				t.Errorf("%q, %d", text, e)
			}
		}
		for _, v := range all {
			if printer.Same(u, v) != printer.Same(v, u) {
				t.Errorf("Same answers otherwise the other way round")
			}
		}
		if !printer.Same(u, u) {
			t.Errorf("tables don't say the same as themselves")
		}
	}
}

// said: all that the tables answer to others.
func said(u *tables.Tables) string {
	var text strings.Builder
	affixes, entries := u.Affixes(), u.Entries()
	fmt.Fprintf(&text, "%#v\n%#v\n%d\n", affixes, entries, u.Len())
	for n, e := range entries {
		one, _ := u.Entry(n)
		fmt.Fprint(&text, one, u.Find(e.Word), u.Suffixes(n), u.Prefixes(n))
	}
	for n := range affixes.Rules {
		r, _ := u.Rule(n)
		fmt.Fprint(&text, r, u.Seconds(n), u.Ends(n))
	}
	return text.String()
}

func TestTheTablesStayAsTheyAre(t *testing.T) { // rules 3 and 4
	var entries []string
	for n := range 5000 {
		entries = append(entries, decimal(n)+"a######")
	}
	other, long := rich(t), read(t, "SET "+long(65520), list(entries...))
	expectNoAff(t, long, api.ErrLong)
	expectNoDic(t, long, api.ErrLong)
	for _, u := range []*tables.Tables{rich(t), read(t, wholeAffixes, wholeWords), read(t, "", "0"), long} {
		before, first, parts := said(u), printed(u), *u
		for range 3 {
			printer.Same(u, other)
			printer.Same(other, u)
			printer.Same(u, nil)
			if after := said(u); after != before {
				t.Fatalf("%.900s\nbecame\n%.900s", before, after)
			}
			// The same again, also where it was refused.
			if again := printed(u); again != first {
				t.Fatalf("%.900s\nbecame\n%.900s", first, again)
			}
		}
		if u.File != parts.File || u.Words != parts.Words {
			t.Errorf("the tables have another file or another dictionary")
		}
	}
}

func TestNothingIsKept(t *testing.T) { // rules 4 and 8
	// Tables that became others at the same place are asked anew.
	u, v := rich(t), read(t, wholeAffixes, wholeWords)
	first, second := printed(rich(t)), printed(v)
	if got := printed(u); got != first {
		t.Fatalf("%s; want %s", got, first)
	}
	if printer.Same(u, v) {
		t.Errorf("other tables say the same")
	}
	*u = *v
	if got := printed(u); got != second {
		t.Errorf("%s; want %s", got, second)
	}
	if !printer.Same(u, v) || printer.Same(u, rich(t)) {
		t.Errorf("tables are held against what they were")
	}
}

func TestTheTextIsNewMemory(t *testing.T) { // rule 4
	// A text of few rows might be handed out as a piece of another.
	u := read(t, "SET abcdef\n", "1\nword\n")
	charset, entries := u.Affixes().Charset, u.Entries()
	a, _ := printer.Aff(u)
	b, _ := printer.Aff(u)
	d, _ := printer.Dic(u)
	for _, text := range []string{a, d} {
		begin := uintptr(unsafe.Pointer(unsafe.StringData(text)))
		for _, other := range []string{charset, entries[0].Word, b} {
			if at := uintptr(unsafe.Pointer(unsafe.StringData(other))); at >= begin && at < begin+uintptr(len(text)) {
				t.Errorf("%q shares its memory with %q", text, other)
			}
		}
	}
}

func TestTablesThatWereReadApart(t *testing.T) { // P2, rule 8
	first, second := rich(t), rich(t)
	want := printed(first)
	for _, other := range append(notRead(t), nil, read(t, wholeAffixes, wholeWords), read(t, "", "0"), second) {
		printed(other)
		printer.Same(first, other)
		printer.Same(other, first)
		if got := printed(first); got != want {
			t.Fatalf("%s\nbecame\n%s", want, got)
		}
	}
	if got := printed(second); got != want {
		t.Errorf("the same texts are written as\n%s\nand\n%s", want, got)
	}
}

func TestCallsAtTheSameTime(t *testing.T) { // P2
	shared, other := rich(t), read(t, wholeAffixes, wholeWords)
	want := []string{printed(shared), printed(other)}
	got, same := make([]string, 16), make([]bool, 16)
	var wait sync.WaitGroup
	for i := range got {
		wait.Go(func() {
			u := []*tables.Tables{shared, other}[i%2]
			got[i] = printed(u)
			same[i] = printer.Same(u, shared)
		})
	}
	wait.Wait()
	for i, text := range got {
		if text != want[i%2] || same[i] != (i%2 == 0) {
			t.Errorf("call %d: %s, %v", i, text, same[i])
		}
	}
}
