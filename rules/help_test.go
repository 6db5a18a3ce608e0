package rules_test

import (
	"strings"
	"testing"

	"hornbook/api"
	"hornbook/rules"
)

// long: a text of so many letters.
func long(n int) string { return strings.Repeat("x", n) }

// every: all bytes, rising.
func every() string {
	bytes := make([]byte, 256)
	for i := range bytes {
		bytes[i] = byte(i)
	}
	return string(bytes)
}

func suffix(strip, add, cond string) api.Rule {
	return api.Rule{Kind: api.Suffix, Strip: strip, Add: add, Cond: cond}
}

func prefix(strip, add, cond string) api.Rule {
	return api.Rule{Kind: api.Prefix, Strip: strip, Add: add, Cond: cond}
}

// expectMade: the rule fits the word and makes that of it, and of that the word is made again.
func expectMade(t *testing.T, r api.Rule, word, want string) {
	t.Helper()
	if !rules.Fits(r, word) {
		t.Errorf("Fits(%.90q, %.90q) is false", shown(r), word)
	}
	if got, ok := rules.Apply(r, word); got != want || !ok {
		t.Errorf("Apply(%.90q, %.90q) = %.90q, %v; want %.90q", shown(r), word, got, ok, want)
	}
	if got, ok := rules.Undo(r, want); got != word || !ok {
		t.Errorf("Undo(%.90q, %.90q) = %.90q, %v; want %.90q", shown(r), want, got, ok, word)
	}
}

// expectNoFit: the rule doesn't fit these words, and makes nothing of them.
func expectNoFit(t *testing.T, r api.Rule, words ...string) {
	t.Helper()
	for _, word := range words {
		if rules.Fits(r, word) {
			t.Errorf("Fits(%.90q, %.90q) is true", shown(r), word)
		}
		if got, ok := rules.Apply(r, word); got != "" || ok {
			t.Errorf("Apply(%.90q, %.90q) = %.90q, %v; want none", shown(r), word, got, ok)
		}
	}
}

// expectNotMade: the rule makes none of these words.
func expectNotMade(t *testing.T, r api.Rule, words ...string) {
	t.Helper()
	for _, word := range words {
		if got, ok := rules.Undo(r, word); got != "" || ok {
			t.Errorf("Undo(%.90q, %.90q) = %.90q, %v; want none", shown(r), word, got, ok)
		}
	}
}

// expectChain: the rules make that of the word, and of that the word is made again.
func expectChain(t *testing.T, word, want string, list ...api.Rule) {
	t.Helper()
	if got, ok := rules.Chain(word, list...); got != want || !ok {
		t.Errorf("Chain(%.90q, %.90q) = %.90q, %v; want %.90q", word, shown(list...), got, ok, want)
	}
	if got, ok := rules.Peel(want, list...); got != word || !ok {
		t.Errorf("Peel(%.90q, %.90q) = %.90q, %v; want %.90q", want, shown(list...), got, ok, word)
	}
}

func expectNoChain(t *testing.T, word string, list ...api.Rule) {
	t.Helper()
	if got, ok := rules.Chain(word, list...); got != "" || ok {
		t.Errorf("Chain(%.90q, %.90q) = %.90q, %v; want none", word, shown(list...), got, ok)
	}
}

func expectNoPeel(t *testing.T, word string, list ...api.Rule) {
	t.Helper()
	if got, ok := rules.Peel(word, list...); got != "" || ok {
		t.Errorf("Peel(%.90q, %.90q) = %.90q, %v; want none", word, shown(list...), got, ok)
	}
}

// shown: what counts of the rules, as a text.
func shown(list ...api.Rule) string {
	var texts []string
	for _, r := range list {
		kind := "no kind"
		switch r.Kind {
		case api.Prefix:
			kind = "PFX"
		case api.Suffix:
			kind = "SFX"
		}
		texts = append(texts, kind+" "+r.Strip+" > "+r.Add+" "+r.Cond)
	}
	return strings.Join(texts, ", ")
}
