package words_test

import (
	"strings"
	"testing"

	"hornbook/api"
	"hornbook/words"
)

// Here every short text over the bytes that mean something is held against a
// plain second writing of the chapter's words.

func TestShortTextsAgainstTheModel(t *testing.T) { // P2.1 to P2.3, P2.5, P2.6
	for _, s := range textsOver("ab\\/# \x7f\xff", 5) {
		checkRead(t, s)
		checkLetters(t, s)
		if got, want := words.Valid(s), s != "" && !strings.ContainsAny(s, " \x7f"); got != want {
			t.Fatalf("Valid(%q) = %v", s, got)
		}
		if got, want := words.Write(s), strings.NewReplacer(`\`, `\\`, `/`, `\/`, `#`, `\#`).Replace(s); got != want {
			t.Fatalf("Write(%q) = %q; want %q", s, got, want)
		}
		if got := words.Reverse(s); words.Reverse(got) != s || got != modelReverse(s) {
			t.Fatalf("Reverse(%q) = %q", s, got)
		}
	}
}

func checkRead(t *testing.T, field string) {
	t.Helper()
	word, rest, cut, e := modelRead(field)
	if w, r, c, code := words.Read(field); w != word || r != rest || c != cut || code != e {
		t.Fatalf("Read(%q) = %q, %q, %v, %d; want %q, %q, %v, %d", field, w, r, c, code, word, rest, cut, e)
	}
}

func checkLetters(t *testing.T, s string) {
	t.Helper()
	want, e := modelLetters(s)
	if got, code := words.Letters(s); got != want || code != e {
		t.Fatalf("Letters(%q) = %q, %d; want %q, %d", s, got, code, want, e)
	}
}

func TestCommonAgainstTheModel(t *testing.T) { // P2.4
	texts := textsOver("ab\xff", 5)
	for _, a := range texts {
		for _, b := range texts {
			if got, want := words.Common(a, b), modelCommon(a, b); got != want {
				t.Fatalf("Common(%q, %q) = %d; want %d", a, b, got, want)
			}
		}
	}
}

func TestReadGivesBackWhatWasWritten(t *testing.T) { // P2.2, P2.3
	for _, w := range textsOver("a\\/# ", 5) {
		expectRead(t, words.Write(w), w, "", false)
		expectRead(t, words.Write(w)+"/", w, "", true)
		expectRead(t, words.Write(w)+"/"+w, w, w, true)
	}
}

// textsOver: all texts of at most that many bytes over the alphabet.
func textsOver(alphabet string, most int) []string {
	all := []string{""}
	for from := 0; most > 0; most-- {
		till := len(all)
		for ; from < till; from++ {
			for i := range len(alphabet) {
				all = append(all, all[from]+alphabet[i:i+1])
			}
		}
	}
	return all
}

// modelRead takes one thing off the field at a time, and calls itself for what is left.
func modelRead(field string) (word, rest string, cut bool, e api.Errno) {
	for _, pair := range []string{`\\`, `\/`, `\#`} {
		if left, ok := strings.CutPrefix(field, pair); ok {
			return ahead(pair[1:], left)
		}
	}
	switch {
	case field == "":
		return "", "", false, api.OK
	case field[0] == '/':
		return "", field[1:], true, api.OK
	case field[0] == '\\':
		return "", "", false, api.ErrEscape
	}
	return ahead(field[:1], field[1:])
}

func ahead(first, left string) (word, rest string, cut bool, e api.Errno) {
	word, rest, cut, e = modelRead(left)
	if e != api.OK {
		return "", "", false, e
	}
	return first + word, rest, cut, e
}

func modelReverse(s string) string {
	turned := ""
	for i := range len(s) {
		turned = s[i:i+1] + turned
	}
	return turned
}

func modelLetters(s string) (string, api.Errno) {
	if s == "" || strings.ContainsAny(s, " \x7f") {
		return "", api.ErrWord
	}
	letters := ""
	for i := range len(s) {
		if !strings.Contains(s[:i], s[i:i+1]) {
			letters += s[i : i+1]
		}
	}
	return letters, api.OK
}

func modelCommon(a, b string) int {
	n := len(a)
	for !strings.HasPrefix(b, a[:n]) {
		n--
	}
	return n
}
