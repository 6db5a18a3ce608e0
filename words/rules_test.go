package words_test

import (
	"strings"
	"sync"
	"testing"

	"hornbook/words"
)

// What the document says of all layers, held at this one.

func TestNoCallPanics(t *testing.T) { // P1, rule 6
	every := make([]byte, 256)
	for i := range every {
		every[i] = byte(i)
	}
	texts := []string{"", `\`, `/`, `#`, `\\\`, "\x00", "\xff", string(every), words.Reverse(string(every)), strings.Repeat(string(every), 300), strings.Repeat(`\`, 99999)}
	for _, a := range texts {
		words.Valid(a)
		words.Read(a)
		words.Write(a)
		words.Reverse(a)
		words.Letters(a)
		for _, b := range texts {
			words.Common(a, b)
		}
	}
}

func TestNothingIsKeptBetweenCalls(t *testing.T) { // rules 3 and 8, P2
	ask := func() string {
		word, rest, _, _ := words.Read(`a\/b/c`)
		letters, _ := words.Letters("noon")
		return strings.Join([]string{word, rest, letters, words.Write("#"), words.Reverse("ab")}, " ")
	}
	const want = `a/b c no \# ba`
	if got := ask(); got != want {
		t.Fatalf("%q", got)
	}
	words.Read(`ab\c`)
	words.Letters("on ")
	words.Letters("on")
	if got := ask(); got != want {
		t.Errorf("%q became %q", want, got)
	}
}

func TestCallsAtTheSameTime(t *testing.T) { // P2
	var wait sync.WaitGroup
	got := make([]string, 16)
	for i := range got {
		wait.Go(func() {
			letters, _ := words.Letters([]string{"noon", "onno"}[i%2])
			word, _, _, _ := words.Read([]string{`\#a`, `b\\/`}[i%2])
			got[i] = letters + word
		})
	}
	wait.Wait()
	for i, s := range got {
		if want := []string{"no#a", `onb\`}[i%2]; s != want {
			t.Errorf("call %d: %q", i, s)
		}
	}
}
