package lines_test

import (
	"math"
	"slices"
	"strings"
	"testing"

	"hornbook/api"
	"hornbook/lines"
)

const mark = "\xef\xbb\xbf"

func TestSplitCutsAtLineFeeds(t *testing.T) { // P1.1
	for _, c := range []struct {
		text string
		want []string
	}{
		{"", nil},
		{"\n", []string{""}},
		{"\n\n", []string{"", ""}},
		{"a", []string{"a"}},
		{"a\n", []string{"a"}},
		{"a\nb", []string{"a", "b"}},
		{"a\n\nb\n", []string{"a", "", "b"}},
		{"a b\r\n\nc", []string{"a b", "", "c"}},
		{"a\r\nb\r\n", []string{"a", "b"}},
		{"a\r\r\nb", []string{"a\r", "b"}},
		{"a\rb\r", []string{"a\rb"}},
		{"\r", []string{""}},
		{"\r\n\r", []string{"", ""}},
		{"\n\r", []string{"", ""}},
		{" \n ", []string{" ", " "}},
		{"\x00\xff\n\x80", []string{"\x00\xff", "\x80"}},
		{"a\u2028b\vc\fd\u0085e", []string{"a\u2028b\vc\fd\u0085e"}},
	} {
		expectSplit(t, c.text, c.want)
	}
}

func TestSplitLeavesOutTheMarkAhead(t *testing.T) { // P1.1
	for _, c := range []struct {
		text string
		want []string
	}{
		{mark, nil},
		{mark + "\n", []string{""}},
		{mark + "a\n" + mark, []string{"a", mark}},
		{mark + mark, []string{mark}},
		{mark + "\r\n", []string{""}},
		{"\n" + mark, []string{"", mark}},
		{" " + mark, []string{" " + mark}},
		{"\xef\xbb", []string{"\xef\xbb"}},
		{"\xef\xbb\n", []string{"\xef\xbb"}},
		{"\xef\xbb\xbe", []string{"\xef\xbb\xbe"}},
	} {
		expectSplit(t, c.text, c.want)
	}
}

func expectSplit(t *testing.T, text string, want []string) {
	t.Helper()
	got, e := lines.Split(text)
	if e != api.OK || !slices.Equal(got, want) {
		t.Errorf("Split(%q) = %q, %d; want %q", text, got, e, want)
	}
}

func TestSplitAtTheLongestText(t *testing.T) { // P1.1
	feeds := strings.Repeat("\n", api.MaxText)
	for _, c := range []struct {
		name, text string
		count      int
		e          api.Errno
	}{
		{"line feeds, the most", feeds, api.MaxText, api.OK},
		{"line feeds, one more", feeds + "\n", 0, api.ErrLong},
		{"one line, the most", strings.Repeat("a", api.MaxText), 1, api.OK},
		{"one line, one more", strings.Repeat("a", api.MaxText+1), 0, api.ErrLong},
		// The mark is no part of a line, but it is of the text.
		{"the mark, the most", mark + feeds[3:], api.MaxText - 3, api.OK},
		{"the mark, one more", mark + feeds[2:], 0, api.ErrLong},
	} {
		got, e := lines.Split(c.text)
		if e != c.e || len(got) != c.count {
			t.Errorf("%s: %d lines, %d; want %d, %d", c.name, len(got), e, c.count, c.e)
		}
	}
}

func TestEachNumbersTheLines(t *testing.T) { // P1.2
	for _, text := range []string{
		"", "\n", "a", "a\nb\n", "a\r\r\nb", "\r", mark + "a\n" + mark, "\n\nc\r",
		strings.Repeat("a\n", api.MaxText/2),
	} {
		want, _ := lines.Split(text)
		got := walked(t, text, math.MaxInt)
		if !slices.Equal(got, want) {
			t.Errorf("Each(%.40q) gives %.40q; want %.40q", text, got, want)
		}
	}
}

func TestEachGivesNothingOfALongText(t *testing.T) { // P1.2
	for _, text := range []string{
		strings.Repeat("a\n", api.MaxText/2) + "b",
		mark + strings.Repeat("\n", api.MaxText-2),
	} {
		if got := walked(t, text, math.MaxInt); len(got) != 0 {
			t.Errorf("%d lines of a text that is too long", len(got))
		}
	}
	if got := walked(t, mark+strings.Repeat("\n", api.MaxText-3), math.MaxInt); len(got) != api.MaxText-3 {
		t.Errorf("%d lines of the longest text with the mark ahead", len(got))
	}
}

func TestEachBeginsAnewEachTime(t *testing.T) { // P1.2
	each := lines.Each("a\r\nb\nc")
	all := []string{"a", "b", "c"}
	for _, left := range []int{1, 3, 2, 1, 3} {
		var got []string
		for number, line := range each {
			got = append(got, line)
			if number != len(got) {
				t.Fatalf("line %d is numbered %d", len(got), number)
			}
			if number == left {
				break
			}
		}
		if !slices.Equal(got, all[:left]) {
			t.Errorf("left at line %d: %q", left, got)
		}
	}
}

func TestEachStopsWhenItIsLeft(t *testing.T) { // P1.2
	for stop := 1; stop <= 3; stop++ {
		calls := 0
		lines.Each("a\nb\nc")(func(int, string) bool {
			calls++
			return calls < stop
		})
		if calls != stop {
			t.Errorf("left at line %d, %d lines were given", stop, calls)
		}
	}
}

func TestEachWalksInsideOneAnother(t *testing.T) { // P1.2
	each := lines.Each("a\nb\nc")
	var got []string
	for _, outer := range each {
		for _, inner := range each {
			got = append(got, outer+inner)
		}
	}
	want := []string{"aa", "ab", "ac", "ba", "bb", "bc", "ca", "cb", "cc"}
	if !slices.Equal(got, want) {
		t.Errorf("%q", got)
	}
}

// walked goes over the text's lines and holds their numbers against 1, 2, 3 ..
func walked(t *testing.T, text string, most int) []string {
	t.Helper()
	var got []string
	for number, line := range lines.Each(text) {
		got = append(got, line)
		if number != len(got) {
			t.Fatalf("Each(%.40q): line %d is numbered %d", text, len(got), number)
		}
		if number == most {
			break
		}
	}
	return got
}

func TestFields(t *testing.T) { // P1.3
	for _, c := range []struct {
		line string
		want []string
	}{
		{"", nil},
		{" ", nil},
		{" \t \t", nil},
		{"a", []string{"a"}},
		{" a", []string{"a"}},
		{"a\t", []string{"a"}},
		{"a b", []string{"a", "b"}},
		{"\tSFX  A \t Y 1 ", []string{"SFX", "A", "Y", "1"}},
		{" a\t#b  c\r", []string{"a", "#b", "c\r"}},
		{"# x", []string{"#", "x"}},
		{"a\nb c", []string{"a\nb", "c"}},
		{"\n", []string{"\n"}},
		{"a\r b\vc\fd", []string{"a\r", "b\vc\fd"}},
		{mark + "a " + mark, []string{mark + "a", mark}},
		// Blanks of other alphabets and broken runes are bytes like others.
		{"a\u00a0b\u3000c d", []string{"a\u00a0b\u3000c", "d"}},
		{"\xc2 \xe3\x80\t\xff\x00", []string{"\xc2", "\xe3\x80", "\xff\x00"}},
	} {
		if got := lines.Fields(c.line); !slices.Equal(got, c.want) {
			t.Errorf("Fields(%q) = %q; want %q", c.line, got, c.want)
		}
	}
}

func TestFieldsOfALongLine(t *testing.T) { // P1.3
	line := strings.Repeat(" ab", api.MaxText)
	if got := lines.Fields(line); len(got) != api.MaxText || got[api.MaxText-1] != "ab" {
		t.Errorf("%d fields of a line of more than MaxText bytes", len(got))
	}
	field := strings.Repeat("a", 4*api.MaxText)
	if got := lines.Fields(" " + field); len(got) != 1 || got[0] != field {
		t.Errorf("a field of more than MaxText bytes: %d fields", len(got))
	}
}

func TestRows(t *testing.T) { // P1.4
	for _, c := range []struct {
		text string
		want []api.Row
	}{
		{"", nil},
		{"\n \t\n\r\n", nil},
		{"#", nil},
		{" #a b\n\t#\n", nil},
		{"x # y\n#z\n\n q\tr ", []api.Row{{Line: 1, Fields: []string{"x"}}, {Line: 4, Fields: []string{"q", "r"}}}},
		{"a b #c d", []api.Row{{Line: 1, Fields: []string{"a", "b"}}}},
		{"a #b c\nd\n", []api.Row{{Line: 1, Fields: []string{"a"}}, {Line: 2, Fields: []string{"d"}}}},
		{"a# b#c \\#d\n", []api.Row{{Line: 1, Fields: []string{"a#", "b#c", "\\#d"}}}},
		{"a b\r\n\r\nc\r", []api.Row{{Line: 1, Fields: []string{"a", "b"}}, {Line: 3, Fields: []string{"c"}}}},
		{"a\r\r\n", []api.Row{{Line: 1, Fields: []string{"a\r"}}}},
		{mark + "a\n" + mark + "#b", []api.Row{{Line: 1, Fields: []string{"a"}}, {Line: 2, Fields: []string{mark + "#b"}}}},
		{mark + "#a\nb", []api.Row{{Line: 2, Fields: []string{"b"}}}},
	} {
		got, e := lines.Rows(c.text)
		if e != api.OK || !slices.EqualFunc(got, c.want, sameRow) {
			t.Errorf("Rows(%q) = %v, %d; want %v", c.text, got, e, c.want)
		}
	}
}

func sameRow(a, b api.Row) bool {
	return a.Line == b.Line && slices.Equal(a.Fields, b.Fields)
}

func TestRowsAtTheLongestText(t *testing.T) { // P1.4
	text := strings.Repeat("a\n", api.MaxText/2)
	rows, e := lines.Rows(text)
	if e != api.OK || len(rows) != api.MaxText/2 || rows[len(rows)-1].Line != api.MaxText/2 {
		t.Errorf("the longest text: %d rows, %d", len(rows), e)
	}
	for _, long := range []string{text + "b", strings.Repeat(" ", api.MaxText+1), mark + text[2:]} {
		if rows, e := lines.Rows(long); e != api.ErrLong || len(rows) != 0 {
			t.Errorf("%d bytes: %d rows, %d", len(long), len(rows), e)
		}
	}
}

func TestShow(t *testing.T) { // P1.5
	for _, c := range []struct {
		rows [][]string
		want string
	}{
		{nil, ""},
		{[][]string{}, ""},
		{[][]string{{"a"}}, "a\n"},
		{[][]string{{"SFX", "A", "Y", "1"}}, "SFX A Y 1\n"},
		{[][]string{{"a", "b"}, {"c"}, {"d", "e", "f"}}, "a b\nc\nd e f\n"},
		{[][]string{{"a#"}}, "a#\n"},
		{[][]string{{"a", "b#c", "\\#"}}, "a b#c \\#\n"},
		{[][]string{{"a", mark}}, "a " + mark + "\n"},
		{[][]string{{"a"}, {mark + "b"}}, "a\n" + mark + "b\n"},
		{[][]string{{"\xef\xbb", "a" + mark}}, "\xef\xbb a" + mark + "\n"},
		{[][]string{{"\x00\xff\v\f\u00a0\u0085"}}, "\x00\xff\v\f\u00a0\u0085\n"},
	} {
		expectShow(t, c.rows, c.want, api.OK)
	}
}

func TestShowRefuses(t *testing.T) { // P1.5
	for _, c := range []struct {
		rows [][]string
		e    api.Errno
	}{
		{[][]string{nil}, api.ErrEmpty},
		{[][]string{{}}, api.ErrEmpty},
		{[][]string{{"a"}, {}}, api.ErrEmpty},
		{[][]string{{"a"}, {}, {"b"}}, api.ErrEmpty},
		{[][]string{{""}}, api.ErrField},
		{[][]string{{"a", ""}}, api.ErrField},
		{[][]string{{"a b"}}, api.ErrField},
		{[][]string{{"a\tb"}}, api.ErrField},
		{[][]string{{"a\nb"}}, api.ErrField},
		{[][]string{{"a\rb"}}, api.ErrField},
		{[][]string{{" "}}, api.ErrField},
		{[][]string{{"a\r"}}, api.ErrField},
		{[][]string{{"\n"}}, api.ErrField},
		{[][]string{{"\xc2 \xff"}}, api.ErrField},
		{[][]string{{"\xff\xfe\xfd\xfc\xfb\xfa\xf9\xf8\xc2\t"}}, api.ErrField},
		{[][]string{{"#"}}, api.ErrField},
		{[][]string{{"a", "#b"}}, api.ErrField},
		{[][]string{{"a"}, {"b"}, {"c", "#"}}, api.ErrField},
		{[][]string{{mark}}, api.ErrField},
		{[][]string{{mark + "a", "b"}}, api.ErrField},
	} {
		expectShow(t, c.rows, "", c.e)
	}
}

func TestShowTellsTheFirstFault(t *testing.T) { // P1.5, rule 1
	long := strings.Repeat("z", api.MaxText)
	for _, c := range []struct {
		rows [][]string
		e    api.Errno
	}{
		{[][]string{{"a", ""}, {}}, api.ErrField},
		{[][]string{{}, {""}}, api.ErrEmpty},
		{[][]string{{"a"}, {}, {"#"}}, api.ErrEmpty},
		{[][]string{{mark}, {}}, api.ErrField},
		{[][]string{{long}, {}}, api.ErrEmpty},
		{[][]string{{long, "#"}}, api.ErrField},
		{[][]string{{long}, {"a"}, {"b", "c d"}}, api.ErrField},
	} {
		expectShow(t, c.rows, "", c.e)
	}
}

func TestShowAtTheLongestText(t *testing.T) { // P1.5
	most := strings.Repeat("z", api.MaxText-1)
	expectShow(t, [][]string{{most}}, most+"\n", api.OK)
	expectShow(t, [][]string{{most + "z"}}, "", api.ErrLong)
	// The blanks and the line feeds count too.
	expectShow(t, [][]string{{most[2:], "b"}}, most[2:]+" b\n", api.OK)
	expectShow(t, [][]string{{most[1:], "b"}}, "", api.ErrLong)
	expectShow(t, [][]string{{most[2:]}, {"b"}}, most[2:]+"\nb\n", api.OK)
	expectShow(t, [][]string{{most[1:]}, {"b"}}, "", api.ErrLong)
	rows := make([][]string, api.MaxText/2)
	for i := range rows {
		rows[i] = []string{"a"}
	}
	expectShow(t, rows, strings.Repeat("a\n", api.MaxText/2), api.OK)
	expectShow(t, append(rows, []string{"a"}), "", api.ErrLong)
}

func expectShow(t *testing.T, rows [][]string, want string, e api.Errno) {
	t.Helper()
	if got, code := lines.Show(rows...); got != want || code != e {
		t.Errorf("Show(%.60q) = %.60q, %d; want %.60q, %d", rows, got, code, want, e)
	}
}

func TestNumber(t *testing.T) { // P1.6
	for _, c := range []struct {
		s          string
		most, want int
	}{
		{"0", 0, 0},
		{"0", 9, 0},
		{"7", 7, 7},
		{"9", 10, 9},
		{"10", 10, 10},
		{"255", 255, 255},
		{"65535", 65535, 65535},
		{"1000000", 1000000, 1000000},
		{"0", math.MaxInt, 0},
		{"9223372036854775806", math.MaxInt, math.MaxInt - 1},
		{"9223372036854775807", math.MaxInt, math.MaxInt},
		{"9223372036854775806", math.MaxInt - 1, math.MaxInt - 1},
	} {
		if got, e := lines.Number(c.s, c.most); got != c.want || e != api.OK {
			t.Errorf("Number(%q, %d) = %d, %d; want %d", c.s, c.most, got, e, c.want)
		}
	}
}

func TestNumberRefuses(t *testing.T) { // P1.6
	for _, c := range []struct {
		s    string
		most int
	}{
		{"", 9}, {"", math.MaxInt},
		{"00", 9}, {"07", 9}, {"0x", 9}, {"01", math.MaxInt},
		{"x", 99}, {"1x", 99}, {"x1", 99}, {"1 ", 99}, {" 1", 99}, {"1\n", 99}, {"1_0", 99}, {"1.0", 99}, {"1e1", 99},
		{"+1", 9}, {"-1", 9}, {"-0", 9}, {"/", 99}, {":", 99}, {"1/", 999}, {"1:", 999}, {"\x001", 99}, {"\xb2", 99}, {"\u0661", 99},
		{"1", 0}, {"8", 7}, {"10", 9}, {"256", 255}, {"259", 255}, {"260", 255}, {"300", 255}, {"1000", 255},
		{"0", -1}, {"5", -1}, {"0", math.MinInt}, {"5", math.MinInt}, {"9223372036854775807", math.MinInt}, {"-1", -1}, {"", -1},
		{"9223372036854775807", math.MaxInt - 1},
		{"9223372036854775808", math.MaxInt},
		{"9223372036854775810", math.MaxInt},
		{"10000000000000000000", math.MaxInt},
		{"18446744073709551615", math.MaxInt},
		{"18446744073709551616", math.MaxInt},
		{"18446744073709551617", math.MaxInt},
		{"1" + strings.Repeat("0", 200), math.MaxInt},
		{strings.Repeat("9", 2*api.MaxText), math.MaxInt},
		{strings.Repeat("0", 2*api.MaxText), math.MaxInt},
	} {
		if got, e := lines.Number(c.s, c.most); got != 0 || e != api.ErrNumber {
			t.Errorf("Number(%.40q, %d) = %d, %d", c.s, c.most, got, e)
		}
	}
}

func TestDecimal(t *testing.T) { // P1.7
	for _, c := range []struct {
		n    int
		want string
	}{
		{0, "0"}, {1, "1"}, {9, "9"}, {10, "10"}, {100, "100"}, {-1, "-1"}, {-40, "-40"}, {65536, "65536"},
		{math.MaxInt, "9223372036854775807"}, {math.MinInt, "-9223372036854775808"}, {math.MinInt + 1, "-9223372036854775807"},
	} {
		if got := lines.Decimal(c.n); got != c.want {
			t.Errorf("Decimal(%d) = %q", c.n, got)
		}
	}
}

func TestNumberReadsWhatDecimalWrites(t *testing.T) { // P1.6, P1.7
	for n := math.MaxInt; n > 0; n /= 3 {
		if got, e := lines.Number(lines.Decimal(n), n); got != n || e != api.OK {
			t.Errorf("%d: read as %d, %d", n, got, e)
		}
		if got, e := lines.Number(lines.Decimal(n), n-1); got != 0 || e != api.ErrNumber {
			t.Errorf("%d above its most: %d, %d", n, got, e)
		}
	}
}
