package rules_test

import (
	"math/rand/v2"
	"slices"
	"strings"
	"testing"

	"hornbook/api"
	"hornbook/rules"
)

// Here the calls are held against a plain second writing of the chapter's
// words: it goes byte by byte, knows a few patterns by the bytes that their
// items admit, and takes rules back by trying all words.

// patterns: what the items of a pattern admit, of a and b; false, if the text is no pattern.
func patterns(cond string) (items []string, ok bool) {
	switch cond {
	case ".":
		return nil, true
	case "a", "[a]", "[^b]":
		return []string{"a"}, true
	case "b":
		return []string{"b"}, true
	case "ab":
		return []string{"a", "b"}, true
	case "[ab]b":
		return []string{"ab", "b"}, true
	case "..":
		return []string{"ab", "ab"}, true
	case "a.b":
		return []string{"a", "ab", "b"}, true
	}
	return nil, false
}

var conds = []string{".", "a", "b", "[^b]", "ab", "[ab]b", "..", "a.b", "", "[", "[]", "aaaaaaaaaaaaaaaaa"}

// apply: what the rule makes of the word.
func apply(r api.Rule, word string) (string, bool) {
	items, ok := patterns(r.Cond)
	rest := len(word) - len(r.Strip)
	if !ok || rest < 1 || len(word) < len(items) {
		return "", false
	}
	var strip, seen, made string
	switch r.Kind {
	case 1:
		strip, seen, made = word[:len(r.Strip)], word[:len(items)], r.Add+word[len(r.Strip):]
	case 2:
		strip, seen, made = word[rest:], word[len(word)-len(items):], word[:rest]+r.Add
	default:
		return "", false
	}
	for i, item := range items {
		if !strings.Contains(item, seen[i:i+1]) {
			return "", false
		}
	}
	return made, strip == r.Strip
}

// chain: likewise of several.
func chain(word string, list []api.Rule) (string, bool) {
	ok := true
	for _, r := range list {
		if word, ok = apply(r, word); !ok {
			return "", false
		}
	}
	return word, true
}

// textsOf: all texts of a and b with at most so many letters.
func textsOf(most int) []string {
	texts := []string{""}
	for at := 0; at < len(texts); at++ {
		if len(texts[at]) < most {
			texts = append(texts, texts[at]+"a", texts[at]+"b")
		}
	}
	return texts
}

func smallRules(kinds []int, pieces, conds []string) []api.Rule {
	var list []api.Rule
	for _, kind := range kinds {
		for _, strip := range pieces {
			for _, add := range pieces {
				for _, cond := range conds {
					list = append(list, api.Rule{Kind: kind, Strip: strip, Add: add, Cond: cond})
				}
			}
		}
	}
	return list
}

func TestSmallRulesAgainstTheModel(t *testing.T) { // P15.1 to P15.3
	const most, piece = 4, 3
	words, befores := textsOf(most), textsOf(most+piece)
	for _, r := range smallRules([]int{0, 1, 2, 3}, textsOf(piece), conds) {
		for _, word := range words {
			want, fits := apply(r, word)
			if !fits {
				want = ""
			}
			if got, ok := rules.Apply(r, word); got != want || ok != fits || rules.Fits(r, word) != fits {
				t.Fatalf("%q: Apply(%q) = %q, %v; want %q, %v", shown(r), word, got, ok, want, fits)
			}
		}
		checkBack(t, []api.Rule{r}, words, befores, func(word string) (string, bool) { return rules.Undo(r, word) })
	}
}

// checkBack: each of the words is taken back to the one of all words of which the rules make it.
func checkBack(t *testing.T, list []api.Rule, words, befores []string, back func(string) (string, bool)) {
	t.Helper()
	want := map[string]string{}
	for _, before := range befores {
		made, ok := chain(before, list)
		if !ok {
			continue
		}
		if other, twice := want[made]; twice {
			t.Fatalf("%q make %q of %q and of %q", shown(list...), made, other, before)
		}
		want[made] = before
	}
	for _, word := range words {
		before, some := want[word]
		if got, ok := back(word); got != before || ok != some {
			t.Fatalf("%q: %q is taken back to %q, %v; want %q, %v", shown(list...), word, got, ok, before, some)
		}
	}
}

func TestSmallChainsAgainstTheModel(t *testing.T) { // P15.4, P15.5
	const most, piece = 3, 2
	words, befores := textsOf(most), textsOf(most+2*piece)
	all := smallRules([]int{1, 2}, []string{"", "a", "ab"}, []string{".", "b", "[ab]b", "["})
	for _, first := range all {
		for _, second := range all {
			checkChain(t, []api.Rule{first, second}, words, befores)
		}
	}
	few := smallRules([]int{1, 2}, []string{"", "a"}, []string{".", "b"})
	for _, first := range few {
		for _, second := range few {
			for _, third := range few {
				checkChain(t, []api.Rule{first, second, third}, words, textsOf(most+3))
			}
		}
	}
}

func checkChain(t *testing.T, list []api.Rule, words, befores []string) {
	t.Helper()
	for _, word := range words {
		want, fits := chain(word, list)
		if got, ok := rules.Chain(word, list...); got != want || ok != fits {
			t.Fatalf("Chain(%q, %q) = %q, %v; want %q, %v", word, shown(list...), got, ok, want, fits)
		}
	}
	checkBack(t, list, words, befores, func(word string) (string, bool) { return rules.Peel(word, list...) })
}

// manyRule: a rule of any bytes, mostly one that fits the word.
func manyRule(dice *rand.Rand, word string) api.Rule {
	r := api.Rule{Kind: 1 + dice.IntN(2), Add: bytesOf(dice, dice.IntN(6)), Cond: "."}
	n := min(len(word), dice.IntN(4))
	end := word[len(word)-n:]
	if r.Kind == api.Prefix {
		end = word[:n]
	}
	r.Strip = end
	switch dice.IntN(8) {
	case 0:
		r.Strip = bytesOf(dice, dice.IntN(3))
	case 1:
		r.Cond = bytesOf(dice, dice.IntN(3))
	case 2:
		r.Cond = end
	case 3:
		r.Cond = "[^" + bytesOf(dice, 3) + "]" + end
	}
	return r
}

// bytesOf: of few bytes, so that they meet, or of any.
func bytesOf(dice *rand.Rand, n int) string {
	most := []int{2, 256}[dice.IntN(2)]
	var bytes []byte
	for range n {
		bytes = append(bytes, byte('a'+dice.IntN(most)))
	}
	return string(bytes)
}

// TestWhatIsMadeIsTakenBack: and made again.
func TestWhatIsMadeIsTakenBack(t *testing.T) { // P15.2 to P15.5
	dice := rand.New(rand.NewPCG(15, 15))
	made, chained := 0, 0
	for range 300000 {
		word := bytesOf(dice, dice.IntN(12))
		r := manyRule(dice, word)
		if checkThereAndBack(t, word, r) {
			made++
		}
		list := []api.Rule{r}
		for at, ok := rules.Apply(r, word); ok && len(list) < 5; {
			list = append(list, manyRule(dice, at))
			at, ok = rules.Chain(at, list[len(list)-1])
		}
		if checkThereAndBack(t, word, list...) && len(list) > 1 {
			chained++
		}
	}
	if made < 100000 || chained < 10000 {
		t.Errorf("only %d words and %d chains were made", made, chained)
	}
}

// checkThereAndBack: whether the rules make something of the word is answered.
func checkThereAndBack(t *testing.T, word string, list ...api.Rule) bool {
	t.Helper()
	to, made := rules.Chain(word, list...)
	if made {
		if back, ok := rules.Peel(to, list...); back != word || !ok {
			t.Fatalf("Peel(%q, %q) = %q, %v; want %q", to, shown(list...), back, ok, word)
		}
	}
	from, undone := rules.Peel(word, list...)
	if undone {
		if again, ok := rules.Chain(from, list...); again != word || !ok {
			t.Fatalf("Chain(%q, %q) = %q, %v; want %q", from, shown(list...), again, ok, word)
		}
	}
	checkStepByStep(t, rules.Apply, word, to, made, slices.All(list))
	checkStepByStep(t, rules.Undo, word, from, undone, slices.Backward(list))
	return made
}

// checkStepByStep: one rule at a time they make the same, and where one makes nothing, there is nothing.
func checkStepByStep(t *testing.T, step func(api.Rule, string) (string, bool), word, want string, some bool, list func(func(int, api.Rule) bool)) {
	t.Helper()
	at, ok := word, true
	for _, r := range list {
		if at, ok = step(r, at); !ok {
			break
		}
	}
	if at != want || ok != some {
		t.Fatalf("of %q step by step %q, %v; at once %q, %v", word, at, ok, want, some)
	}
}
