package dic_test

import (
	"fmt"
	"math/rand/v2"
	"slices"
	"strings"
	"testing"

	"hornbook/aff"
	"hornbook/api"
	"hornbook/dic"
)

// Here Read is held against a plain second writing of the chapter's words: it
// goes over the lines, reads a field byte by byte, and knows of the affix file
// what Affixes tells. Of the layers below it takes f.Flags alone.

func modelRead(f *aff.File, text string) ([]api.Entry, api.Fault) {
	refused := func(line int, e api.Errno) ([]api.Entry, api.Fault) {
		return nil, api.Fault{File: api.DicFile, Line: line, Code: e}
	}
	if len(text) > 65536 {
		return refused(0, api.ErrLong)
	}
	list := strings.SplitAfter(strings.TrimPrefix(text, "\xef\xbb\xbf"), "\n")
	if list[len(list)-1] == "" {
		list = list[:len(list)-1]
	}
	count := -1
	var entries []api.Entry
	for n, line := range list {
		line = strings.TrimSuffix(strings.TrimSuffix(line, "\n"), "\r")
		row := strings.FieldsFunc(line, func(r rune) bool { return r == ' ' || r == '\t' })
		if i := slices.IndexFunc(row, func(f string) bool { return f[0] == '#' }); i >= 0 {
			row = row[:i]
		}
		if len(row) == 0 {
			continue
		}
		if count == len(entries) {
			return refused(n+1, api.ErrCount)
		}
		if len(row) > 1 {
			return refused(n+1, api.ErrFields)
		}
		if count < 0 {
			if count = slices.Index(decimals, row[0]); count < 0 {
				return refused(n+1, api.ErrNumber)
			}
			continue
		}
		e, code := modelEntry(f, row[0])
		if code != api.OK {
			return refused(n+1, code)
		}
		entries = append(entries, e)
	}
	if len(entries) != count {
		return refused(len(list)+1, api.ErrCount)
	}
	return entries, api.Fault{}
}

// decimals: the numbers that a count may be, as they are written.
var decimals = func() []string {
	var all []string
	for n := range 8193 {
		all = append(all, fmt.Sprint(n))
	}
	return all
}()

func modelEntry(f *aff.File, field string) (api.Entry, api.Errno) {
	word, behind, cut := "", "", false
	for i := 0; i < len(field) && !cut; i++ {
		switch {
		case field[i] == '/':
			behind, cut = field[i+1:], true
		case field[i] != '\\':
			word += field[i : i+1]
		case i+1 < len(field) && strings.Contains(`\/#`, field[i+1:i+2]):
			i++
			word += field[i : i+1]
		default:
			return api.Entry{}, api.ErrEscape
		}
	}
	if word == "" || slices.ContainsFunc([]byte(word), func(b byte) bool { return b <= 32 || b == 127 }) {
		return api.Entry{}, api.ErrWord
	}
	if len(word) > 64 {
		return api.Entry{}, api.ErrSize
	}
	if !cut {
		return entry(word), api.OK
	}
	set, e := f.Flags(behind)
	if e != api.OK {
		return api.Entry{}, e
	}
	said := f.Affixes()
	for _, flag := range set {
		if !slices.Contains(said.Specials[:], flag) && !slices.ContainsFunc(said.Classes, func(c api.Class) bool { return c.Flag == flag }) {
			return api.Entry{}, api.ErrUnknown
		}
	}
	return entry(word, set...), api.OK
}

func checkText(t *testing.T, f *aff.File, text string) {
	t.Helper()
	want, fault := modelRead(f, text)
	w, got := dic.Read(f, text)
	if got != fault || (w == nil) != (fault != api.Fault{}) || !same(w.Entries(), want) || w.Len() != len(want) {
		t.Fatalf("Read(%.300q) = %v, %v; want %v, %v", text, w.Entries(), got, want, fault)
	}
	for _, word := range []string{"", "a", "b", "fly", "in/out", "1"} {
		var numbers []int
		for n, e := range want {
			if e.Word == word {
				numbers = append(numbers, n)
			}
		}
		expectFound(t, w, word, numbers...)
	}
}

// someFiles: each kind of flags, with and without aliases.
func someFiles(t *testing.T) []*aff.File {
	t.Helper()
	return []*aff.File{
		file(t), withA(t), file(t, "NEEDAFFIX A", "PFX B Y 0"), file(t, "FLAG long", "KEEPCASE AA", "SFX AB N 0"), file(t, "FLAG num", "NOSUGGEST 1", "SFX 2 Y 0"),
		file(t, "AF 2", "AF AB", "AF A", "FORBIDDENWORD A", "PFX C Y 0"),
	}
}

// vocabulary: rows of which many go together.
var vocabulary = []string{
	"", "# x", "0", "1", "2", "3", "01", "8193", "1 2", "a", "a #", "b", "fly", `in\/out`, "a/A", "a/AB", "a/BA", "a/ABAA", "a/1", "a/2", "a/1,2", "a/3", "a/", "/A", "a\\b", "\x01", "a b", "fly/A/B",
}

func TestFewRowsAgainstTheModel(t *testing.T) { // P12.1 to P12.3
	for _, f := range someFiles(t) {
		for _, a := range vocabulary {
			checkText(t, f, a)
			for _, b := range vocabulary {
				checkText(t, f, a+"\n"+b)
				for _, c := range vocabulary {
					checkText(t, f, rows(a, b, c))
				}
			}
		}
	}
}

func TestManyRowsAgainstTheModel(t *testing.T) { // P12.1 to P12.3
	dice := rand.New(rand.NewPCG(12, 12))
	files := someFiles(t)
	taken := 0
	for range 20000 {
		f := files[dice.IntN(len(files))]
		var list []string
		entries := 0
		for range dice.IntN(20) {
			row := vocabulary[dice.IntN(len(vocabulary))]
			good, fault := modelRead(f, rows("1", row))
			// Rows at fault are mostly left out, so that the text goes on for long.
			if fault == (api.Fault{}) || row == "" || row == "# x" || dice.IntN(50) == 0 {
				list, entries = append(list, row), entries+len(good)
			}
		}
		if dice.IntN(10) == 0 {
			entries += dice.IntN(3) - 1
		}
		text := rows(append([]string{fmt.Sprint(entries)}, list...)...)
		checkText(t, f, text)
		checkText(t, f, strings.TrimSuffix(text, "\n"))
		checkText(t, f, "\xef\xbb\xbf"+strings.ReplaceAll(text, "\n", "\r\n"))
		if _, fault := modelRead(f, text); fault == (api.Fault{}) {
			taken++
		}
	}
	if taken < 5000 {
		t.Errorf("only %d texts were taken", taken)
	}
}

func TestEachByteChangedAgainstTheModel(t *testing.T) { // P12.1 to P12.3
	for _, f := range someFiles(t) {
		for _, text := range []string{"4\nfly/A\nin\\/out/AB\n\na # b\r\nb/1\n", "# w\n3\na\n\\\\a/2\n\nin\\/out/1,2"} {
			for i := range len(text) {
				checkText(t, f, text[:i])
				checkText(t, f, text[:i]+text[i+1:])
				for b := range 256 {
					checkText(t, f, text[:i]+string([]byte{byte(b)})+text[i+1:])
					checkText(t, f, text[:i]+string([]byte{byte(b)})+text[i:])
				}
				checkText(t, f, text[:i]+long(60)+text[i:])
				checkText(t, f, text[:i]+long(64)+text[i:])
				checkText(t, f, text[:i]+long(65)+text[i:])
			}
		}
	}
}

func TestFieldsAgainstTheModel(t *testing.T) { // P12.1, P12.2
	for _, f := range someFiles(t) {
		for _, field := range textsOver("aA1,/\\#\x7f", 5) {
			checkText(t, f, "1\n"+field)
			checkText(t, f, "2\na\nb"+field+"\n")
		}
	}
}

func TestCountsAgainstTheModel(t *testing.T) { // P12.1
	f := withA(t)
	for _, field := range textsOver("0189-", 5) {
		checkText(t, f, field)
		checkText(t, f, field+"\na\n")
	}
	for n := range 8200 {
		checkText(t, f, fmt.Sprint(n))
	}
}

// textsOver: all texts of at most that many bytes over the alphabet.
func textsOver(alphabet string, most int) []string {
	all := []string{""}
	for from := 0; most > 0; most-- {
		till := len(all)
		for ; from < till; from++ {
			for i := range len(alphabet) {
				all = append(all, all[from]+alphabet[i:i+1])
			}
		}
	}
	return all
}
