package lines_test

import (
	"bytes"
	"math"
	"math/big"
	"slices"
	"strings"
	"testing"

	"hornbook/api"
	"hornbook/lines"
)

// Here every short text over the bytes that mean something is held against a
// plain second writing of the chapter's words.

func TestShortTextsAgainstTheModel(t *testing.T) { // P1.1 to P1.4
	for _, text := range textsOver("a \t\r\n#\xef\xbb\xbf", 5) {
		checkText(t, text)
	}
	for _, text := range textsOver("a \r\n#\xef", 4) {
		checkText(t, mark+text)
	}
}

func checkText(t *testing.T, text string) {
	t.Helper()
	want := modelLines(text)
	if got, e := lines.Split(text); e != api.OK || !slices.Equal(got, want) {
		t.Fatalf("Split(%q) = %q, %d; want %q", text, got, e, want)
	}
	for left := 1; left <= len(want); left++ {
		if got := walked(t, text, left); !slices.Equal(got, want[:left]) {
			t.Fatalf("Each(%q), left at %d: %q", text, left, got)
		}
	}
	if got := walked(t, text, math.MaxInt); len(got) != len(want) {
		t.Fatalf("Each(%q) gives %q", text, got)
	}
	if got, want := lines.Fields(text), modelFields(text); !slices.Equal(got, want) {
		t.Fatalf("Fields(%q) = %q; want %q", text, got, want)
	}
	if got, e := lines.Rows(text); e != api.OK || !slices.EqualFunc(got, modelRows(text), sameRow) {
		t.Fatalf("Rows(%q) = %v, %d; want %v", text, got, e, modelRows(text))
	}
}

func TestShortNumbersAgainstTheModel(t *testing.T) { // P1.6
	for _, s := range textsOver("0129a-", 4) {
		for _, most := range []int{math.MinInt, -1, 0, 1, 2, 9, 10, 11, 12, 19, 20, 21, 120, 1209, 9998, math.MaxInt} {
			checkNumber(t, s, most)
		}
	}
	for _, most := range []int{math.MaxInt, math.MaxInt - 1, math.MaxInt - 8, math.MaxInt / 10, 1 << 31, 1<<32 - 1} {
		for step := int64(-12); step <= 12; step++ {
			n := new(big.Int).Add(big.NewInt(int64(most)), big.NewInt(step))
			checkNumber(t, n.String(), most)
			checkNumber(t, n.String()+"0", most)
		}
	}
}

func checkNumber(t *testing.T, s string, most int) {
	t.Helper()
	want, e := modelNumber(s, most)
	if got, code := lines.Number(s, most); got != want || code != e {
		t.Fatalf("Number(%q, %d) = %d, %d; want %d, %d", s, most, got, code, want, e)
	}
}

func TestShortRowsAgainstTheModel(t *testing.T) { // P1.5
	fields := []string{"a", "", "#a", "a#", "b c", "\td", "e\n", "\r", mark, mark + "a", "\xef\xbb", "\xff"}
	var rows [][]string
	rows = append(rows, nil)
	for _, f := range fields {
		rows = append(rows, []string{f})
		for _, g := range fields {
			rows = append(rows, []string{f, g})
		}
	}
	checkShow(t)
	for _, first := range rows {
		checkShow(t, first)
		for _, second := range rows {
			checkShow(t, first, second)
		}
	}
}

func checkShow(t *testing.T, rows ...[]string) {
	t.Helper()
	want, e := modelShow(rows)
	got, code := lines.Show(rows...)
	if got != want || code != e {
		t.Fatalf("Show(%q) = %q, %d; want %q, %d", rows, got, code, want, e)
	}
	if e == api.OK {
		checkReadBack(t, rows, got)
	}
}

// checkReadBack: what Show lets through is just what Rows reads as the same rows.
func checkReadBack(t *testing.T, rows [][]string, text string) {
	t.Helper()
	read, _ := lines.Rows(text)
	if len(read) != len(rows) {
		t.Fatalf("%q is read back as %v", rows, read)
	}
	for i, row := range read {
		if row.Line != i+1 || !slices.Equal(row.Fields, rows[i]) {
			t.Fatalf("%q is read back as %v", rows, read)
		}
	}
}

// textsOver: all texts of at most that many bytes over the alphabet.
func textsOver(alphabet string, most int) []string {
	all := []string{""}
	for from := 0; most > 0; most-- {
		till := len(all)
		for ; from < till; from++ {
			for i := range len(alphabet) {
				all = append(all, all[from]+alphabet[i:i+1])
			}
		}
	}
	return all
}

func modelLines(text string) []string {
	var list []string
	left := bytes.TrimPrefix([]byte(text), []byte{0xef, 0xbb, 0xbf})
	for _, piece := range bytes.SplitAfter(left, []byte{10}) {
		if len(piece) == 0 {
			continue
		}
		piece = bytes.TrimSuffix(piece, []byte{10})
		list = append(list, string(bytes.TrimSuffix(piece, []byte{13})))
	}
	return list
}

func modelFields(line string) []string {
	return strings.FieldsFunc(line, func(r rune) bool { return r == 32 || r == 9 })
}

func modelRows(text string) []api.Row {
	var rows []api.Row
	for i, line := range modelLines(text) {
		row := api.Row{Line: i + 1}
		for _, field := range modelFields(line) {
			if field[0] == '#' {
				break
			}
			row.Fields = append(row.Fields, field)
		}
		if row.Fields != nil {
			rows = append(rows, row)
		}
	}
	return rows
}

func modelNumber(s string, most int) (int, api.Errno) {
	n, ok := new(big.Int).SetString(s, 10)
	if !ok || n.String() != s || n.Sign() < 0 || n.Cmp(big.NewInt(int64(most))) > 0 {
		return 0, api.ErrNumber
	}
	return int(n.Int64()), api.OK
}

func modelShow(rows [][]string) (string, api.Errno) {
	text := ""
	for _, row := range rows {
		if len(row) == 0 {
			return "", api.ErrEmpty
		}
		for i, field := range row {
			holds := bytes.IndexByte([]byte(field), 32) >= 0 || bytes.IndexByte([]byte(field), 9) >= 0 ||
				bytes.IndexByte([]byte(field), 10) >= 0 || bytes.IndexByte([]byte(field), 13) >= 0
			marked := text == "" && bytes.HasPrefix([]byte(field), []byte{0xef, 0xbb, 0xbf})
			if len(field) == 0 || holds || marked || field[0] == '#' {
				return "", api.ErrField
			}
			text += field
			if i < len(row)-1 {
				text += " "
			}
		}
		text += "\n"
	}
	return text, api.OK
}
