package cond_test

import (
	"strings"
	"testing"

	"hornbook/api"
	"hornbook/cond"
)

// Here every short text over the bytes that mean something is held against a
// plain second writing of the chapter's words.

// marks: which bytes an item admits.
type marks [256]bool

func TestShortTextsAgainstTheModel(t *testing.T) { // P4.1, P4.2, P4.4
	for _, s := range textsOver("ab.[]^-", 5) {
		checkRead(t, s, "ab.[]^-z\x00\xff")
	}
	for _, s := range textsOver("_.[]^\xff", 4) {
		checkRead(t, s, every())
	}
}

func checkRead(t *testing.T, s, bytes string) {
	t.Helper()
	want, e := modelRead(s)
	p, code := cond.Read(s)
	if code != e || p.Len() != len(want) {
		t.Fatalf("Read(%q) = %d items, %d; want %d, %d", s, p.Len(), code, len(want), e)
	}
	for i := -1; i <= len(want); i++ {
		for _, b := range []byte(bytes) {
			if p.Admits(i, b) != (i >= 0 && i < len(want) && want[i][b]) {
				t.Fatalf("Read(%q): Admits(%d, %q) = %v", s, i, b, p.Admits(i, b))
			}
		}
	}
	shown := p.Show()
	if shown != modelShow(want) || e == api.OK && len(shown) > len(s) {
		t.Fatalf("Read(%q).Show() = %q; want %q", s, shown, modelShow(want))
	}
	if again, code := cond.Read(shown); code != api.OK || !again.Equal(p) || again.Show() != shown {
		t.Fatalf("Read(%q): the text %q reads as %q, %d", s, shown, again.Show(), code)
	}
}

// modelRead takes one item off the text at a time, and calls itself for what is left.
func modelRead(s string) ([]marks, api.Errno) {
	switch {
	case s == "" || len(s) > api.MaxPattern:
		return nil, api.ErrPattern
	case s == ".":
		return nil, api.OK
	}
	items, ok := modelItems(s)
	switch {
	case !ok:
		return nil, api.ErrClass
	case len(items) > api.MaxItems:
		return nil, api.ErrItems
	}
	return items, api.OK
}

func modelItems(s string) ([]marks, bool) {
	if s == "" {
		return nil, true
	}
	end, list, admits := 1, s[:1], true
	switch s[0] {
	case '.':
		list, admits = "", false
	case '[':
		end = strings.Index(s, "]") + 1
		if end == 0 {
			return nil, false
		}
		list = s[1 : end-1]
		if list != "" && list[0] == '^' {
			list, admits = list[1:], false
		}
		if list == "" {
			return nil, false
		}
	}
	var first marks
	for b := range first {
		first[b] = strings.Contains(list, string([]byte{byte(b)})) == admits
	}
	rest, ok := modelItems(s[end:])
	return append([]marks{first}, rest...), ok
}

func modelShow(items []marks) string {
	if len(items) == 0 {
		return "."
	}
	text := ""
	for _, m := range items {
		text += modelShowItem(m)
	}
	return text
}

func modelShowItem(m marks) string {
	in, out := "", ""
	for b, admitted := range m {
		if one := string([]byte{byte(b)}); admitted {
			in += one
		} else {
			out += one
		}
	}
	switch {
	case out == "":
		return "."
	case in == "." || in == "[":
		return "[" + in + "]"
	case len(in) == 1:
		return in
	case m[']']:
		return "[^" + out + "]"
	case m['^']:
		return "[" + strings.ReplaceAll(in, "^", "") + "^]"
	}
	return "[" + in + "]"
}

// textsOver: all texts of at most that many bytes over the alphabet.
func textsOver(alphabet string, most int) []string {
	all := []string{""}
	for from := 0; most > 0; most-- {
		till := len(all)
		for ; from < till; from++ {
			for i := range len(alphabet) {
				all = append(all, all[from]+alphabet[i:i+1])
			}
		}
	}
	return all
}

func TestWordsAgainstTheModel(t *testing.T) { // P4.3
	words := textsOver("ab.", 4)
	for _, s := range textsOver("ab.[]^", 5) {
		items, e := modelRead(s)
		if e != api.OK {
			continue
		}
		p := read(t, s)
		for _, w := range words {
			starts, ends := modelFits(items, w, 0), modelFits(items, w, len(w)-len(items))
			if p.Starts(w) != starts || p.Ends(w) != ends {
				t.Fatalf("%q, %q: Starts %v, Ends %v", s, w, p.Starts(w), p.Ends(w))
			}
		}
	}
}

// modelFits: does each item admit its byte of w, the first one that at the place?
func modelFits(items []marks, w string, place int) bool {
	if len(w) < len(items) {
		return false
	}
	for i, m := range items {
		if !m[w[place+i]] {
			return false
		}
	}
	return true
}

func TestPairsAgainstTheModel(t *testing.T) { // P4.5, P4.6
	type pair struct {
		p     cond.Pattern
		items []marks
	}
	var all []pair
	for _, s := range textsOver("ab.[]^", 4) {
		if items, e := modelRead(s); e == api.OK {
			all = append(all, pair{read(t, s), items})
		}
	}
	for _, a := range all {
		for _, b := range all {
			if got, want := a.p.Equal(b.p), modelEqual(a.items, b.items); got != want {
				t.Fatalf("%q and %q: Equal %v", a.p.Show(), b.p.Show(), got)
			}
		}
	}
	for i, a := range all {
		b := all[(7*i+3)%len(all)]
		want := modelShow(append(append([]marks{}, a.items...), b.items...))
		if got, e := cond.Join(a.p, b.p); e != api.OK || got.Show() != want || got.Len() != len(a.items)+len(b.items) {
			t.Fatalf("Join(%q, %q) = %q, %d; want %q", a.p.Show(), b.p.Show(), got.Show(), e, want)
		}
	}
}

func modelEqual(a, b []marks) bool {
	if len(a) != len(b) {
		return false
	}
	for i := range a {
		if a[i] != b[i] {
			return false
		}
	}
	return true
}

func TestManyItemsAgainstTheModel(t *testing.T) { // P4.1, P4.4
	pieces := []string{"a", ".", "[ab]", "[^a]", "]", "^", "[[]", "[.]", "[a^]", "[^^]"}
	for n := api.MaxItems - 2; n <= api.MaxItems+2; n++ {
		for shift := range pieces {
			var text strings.Builder
			for i := range n {
				text.WriteString(pieces[(i*(shift+1)+shift)%len(pieces)])
			}
			for _, tail := range []string{"", "[", "[^]", "]"} {
				checkRead(t, text.String()+tail, "ab.[]^z")
			}
		}
	}
}
