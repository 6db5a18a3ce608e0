package flags_test

import (
	"maps"
	"regexp"
	"slices"
	"strconv"
	"strings"
	"testing"

	"hornbook/api"
	"hornbook/flags"
)

// Here all short texts and lists are held against a plain second writing of the
// chapter's words.

var oneFlag = map[int]*regexp.Regexp{
	api.Short:   regexp.MustCompile(`^[!-~]$`),
	api.Long:    regexp.MustCompile(`^[!-~][!-~]$`),
	api.Numbers: regexp.MustCompile(`^[1-9][0-9]{0,4}$`),
}

func TestShortTextsAgainstTheModel(t *testing.T) { // P3.1, P3.2
	for _, s := range textsOver("A06,/~ \x7f", 6) {
		for _, kind := range kinds {
			checkOne(t, kind, s)
			checkRead(t, kind, s)
		}
	}
}

func TestNumbersAroundTheGreatest(t *testing.T) { // P3.1, P3.2
	for n := range 70000 {
		checkOne(t, api.Numbers, strconv.Itoa(n))
		checkRead(t, api.Numbers, "9,"+strconv.Itoa(n))
	}
}

func checkOne(t *testing.T, kind int, s string) {
	t.Helper()
	want, e := modelOne(kind, s)
	if got, code := flags.One(kind, s); got != want || code != e {
		t.Fatalf("One(%d, %q) = %d, %d; want %d, %d", kind, s, got, code, want, e)
	}
}

func checkRead(t *testing.T, kind int, s string) {
	t.Helper()
	want, e := modelRead(kind, s)
	if got, code := flags.Read(kind, s); code != e || !slices.Equal(got, want) {
		t.Fatalf("Read(%d, %q) = %v, %d; want %v, %d", kind, s, got, code, want, e)
	}
}

func modelOne(kind int, s string) (api.Flag, api.Errno) {
	if !oneFlag[kind].MatchString(s) || kind != api.Numbers && strings.ContainsAny(s, "/,#") {
		return 0, api.ErrFlag
	}
	if kind == api.Numbers {
		n, err := strconv.ParseUint(s, 10, 16)
		if err != nil {
			return 0, api.ErrFlag
		}
		return api.Flag(n), api.OK
	}
	n := 0
	for _, b := range []byte(s) {
		n = 256*n + int(b)
	}
	return api.Flag(n), api.OK
}

// modelRead takes one flag off the text at a time.
func modelRead(kind int, s string) (flags.Set, api.Errno) {
	met := map[api.Flag]bool{}
	for more := true; more; {
		piece := s[:min(kind, len(s))]
		rest := s[len(piece):]
		if kind == api.Numbers {
			piece, rest, more = strings.Cut(s, ",")
		} else {
			more = rest != ""
		}
		f, e := modelOne(kind, piece)
		if e != api.OK {
			return nil, e
		}
		met[f] = true
		s = rest
	}
	return sorted(met), api.OK
}

func sorted(met map[api.Flag]bool) flags.Set {
	return slices.Sorted(maps.Keys(met))
}

// textsOver: all texts of at most that many bytes over the alphabet.
func textsOver(alphabet string, most int) []string {
	all := []string{""}
	for from := 0; most > 0; most-- {
		till := len(all)
		for ; from < till; from++ {
			for i := range len(alphabet) {
				all = append(all, all[from]+alphabet[i:i+1])
			}
		}
	}
	return all
}

func TestShortListsAgainstTheModel(t *testing.T) { // P3.4, P3.5
	var lists []flags.Set
	for _, s := range textsOver("\x00\x01\x02", 4) {
		var list flags.Set
		for i := range len(s) {
			list = append(list, api.Flag(s[i]))
		}
		lists = append(lists, list)
	}
	for _, a := range lists {
		for _, b := range lists {
			checkPair(t, a, b)
		}
	}
}

func checkPair(t *testing.T, a, b flags.Set) {
	t.Helper()
	inA, inB := map[api.Flag]bool{}, map[api.Flag]bool{}
	for _, f := range a {
		inA[f] = true
	}
	for _, f := range b {
		inB[f] = true
	}
	with, without := maps.Clone(inA), maps.Clone(inA)
	any, all := false, true
	for f := range inB {
		with[f] = true
		delete(without, f)
		any = any || inA[f]
		all = all && inA[f]
	}
	expectSet(t, "With", a.With(b...), sorted(with))
	expectSet(t, "Without", a.Without(b...), sorted(without))
	expectSet(t, "Of", flags.Of(a...), sorted(inA))
	expectSet(t, "Fold With", flags.Fold(flags.Set.With, a, nil, b), sorted(with))
	expectSet(t, "Fold Without", flags.Fold(flags.Set.Without, a, b, b), sorted(without))
	if a.Any(b...) != any || a.All(b...) != all || a.Equal(b) != maps.Equal(inA, inB) || a.Count() != len(inA) {
		t.Fatalf("%v and %v: Any %v, All %v, Equal %v, Count %d", a, b, a.Any(b...), a.All(b...), a.Equal(b), a.Count())
	}
}
