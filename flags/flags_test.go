package flags_test

import (
	"math"
	"slices"
	"strconv"
	"strings"
	"testing"

	"hornbook/api"
	"hornbook/flags"
)

var kinds = []int{api.Short, api.Long, api.Numbers}

var noKinds = []int{0, 4, -1, 5, 257, 1 << 32, 1<<32 + 1, math.MinInt, math.MaxInt}

func TestOneReadsEveryByteThatIsAFlagByte(t *testing.T) { // P3.1
	for b := range 256 {
		text := string([]byte{byte(b)})
		if isFlagByte(b) {
			expectOne(t, api.Short, text, b)
			expectOne(t, api.Long, "A"+text, 65*256+b)
			expectOne(t, api.Long, text+"A", b*256+65)
		} else {
			expectNotOne(t, api.Short, text, api.ErrFlag)
			expectNotOne(t, api.Long, "A"+text, api.ErrFlag)
			expectNotOne(t, api.Long, text+"A", api.ErrFlag)
		}
	}
}

// isFlagByte is written as the chapter says it, apart from the program's own way.
func isFlagByte(b int) bool {
	return 33 <= b && b <= 126 && !strings.ContainsRune("/,#", rune(b))
}

func TestOneOfEachKind(t *testing.T) { // P3.1
	expectOne(t, api.Short, "A", 65)
	expectOne(t, api.Short, "!", 33)
	expectOne(t, api.Short, "~", 126)
	expectOne(t, api.Short, "0", 48)
	expectOne(t, api.Long, "Ab", 16738)
	expectOne(t, api.Long, "bA", 25153)
	expectOne(t, api.Long, "zz", 31354)
	expectOne(t, api.Long, "!!", 33*257)
	expectOne(t, api.Long, "~~", 126*257)
	expectOne(t, api.Long, "12", 49*256+50)
	for _, n := range []int{1, 7, 10, 300, 999, 65534, 65535} {
		expectOne(t, api.Numbers, strconv.Itoa(n), n)
	}
}

func TestOneRefusesWhatIsNotJustOneFlag(t *testing.T) { // P3.1
	for _, s := range []string{"", "AB", "AA", "A,", ",A", "/", ",", "#", " ", "A ", "\x7f", "ä"} {
		expectNotOne(t, api.Short, s, api.ErrFlag)
	}
	for _, s := range []string{"", "A", "ABC", "ABCD", "A/", ",A", "#A", "A#", " A", "A ", "A\x7f", "\x1fA", "A,B"} {
		expectNotOne(t, api.Long, s, api.ErrFlag)
	}
	for _, s := range []string{
		"", "0", "00", "01", "65536", "65537", "70000", "131073", "4294967297", "18446744073709551617",
		"-1", "+1", "1,", ",1", "1,2", ",", " 1", "1 ", "1.", "0x1", "1_0", "A", "1A", "\x001", "١", strings.Repeat("1", 999),
	} {
		expectNotOne(t, api.Numbers, s, api.ErrFlag)
	}
}

func TestOneAsksForTheKindFirst(t *testing.T) { // P3.1
	for _, kind := range noKinds {
		for _, s := range []string{"", "A", "Ab", "7", "/", "A,"} {
			expectNotOne(t, kind, s, api.ErrKind)
		}
	}
}

func expectOne(t *testing.T, kind int, s string, want int) {
	t.Helper()
	if f, e := flags.One(kind, s); int(f) != want || e != api.OK {
		t.Errorf("One(%d, %q) = %d, %d; want %d", kind, s, f, e, want)
	}
}

func expectNotOne(t *testing.T, kind int, s string, want api.Errno) {
	t.Helper()
	if f, e := flags.One(kind, s); f != 0 || e != want {
		t.Errorf("One(%d, %.40q) = %d, %d; want 0, %d", kind, s, f, e, want)
	}
}

func TestReadAnswersARisingSet(t *testing.T) { // P3.2
	for _, c := range []struct {
		kind int
		s    string
		want flags.Set
	}{
		{api.Short, "A", flags.Set{65}},
		{api.Short, "BA", flags.Set{65, 66}},
		{api.Short, "ABA", flags.Set{65, 66}},
		{api.Short, "~!", flags.Set{33, 126}},
		{api.Short, "70", flags.Set{48, 55}},
		{api.Long, "Ab", flags.Set{16738}},
		{api.Long, "zzAb", flags.Set{16738, 31354}},
		{api.Long, "AbAbAb", flags.Set{16738}},
		// The pairs are cut from the beginning on: bA between the two is none.
		{api.Long, "AbAc", flags.Set{16738, 16739}},
		{api.Numbers, "7", flags.Set{7}},
		{api.Numbers, "7,300,7", flags.Set{7, 300}},
		{api.Numbers, "65535,1", flags.Set{1, 65535}},
	} {
		expectRead(t, c.kind, c.s, c.want)
	}
}

func TestReadRefusesWhatIsNoFlag(t *testing.T) { // P3.2
	for _, s := range []string{"", "A,B", "A#", "#A", "A/", "/", ",", "A\x7f", "A B", " ", "\x1f", "A\x80", "ä"} {
		expectNotRead(t, api.Short, s, api.ErrFlag)
	}
	for _, s := range []string{"", "a", "abc", "abcde", "ab,cd", "ab cd", "ab#c", "ab/c", "abc\x7f", "\x20abc"} {
		expectNotRead(t, api.Long, s, api.ErrFlag)
	}
	for _, s := range []string{"", ",", "7,", ",7", "7,,8", ",,", "0", "7,0", "0,7", "65536", "7,65536", "07", "7,08", "7 ,8", "7, 8", "7;8", "7.8", "-7", "A", "7/8", "7#"} {
		expectNotRead(t, api.Numbers, s, api.ErrFlag)
	}
}

func TestReadTakesNoMoreThanTheMost(t *testing.T) { // P3.2
	short := "A"
	for _, c := range []struct {
		kind        int
		one, behind string
		want        flags.Set
	}{
		{api.Short, short, short, flags.Set{65}},
		{api.Long, "Ab", "Ab", flags.Set{16738}},
		{api.Numbers, "7", ",7", flags.Set{7}},
	} {
		most := c.one + strings.Repeat(c.behind, api.MaxFlags-1)
		expectRead(t, c.kind, most, c.want)
		expectNotRead(t, c.kind, most+c.behind, api.ErrMany)
		expectNotRead(t, c.kind, most+strings.Repeat(c.behind, 9999), api.ErrMany)
		// What is no flag is told ahead of too many, wherever it stands.
		for _, wrong := range []string{"/", ","} {
			expectNotRead(t, c.kind, most+c.behind+wrong, api.ErrFlag)
			expectNotRead(t, c.kind, wrong+most+c.behind, api.ErrFlag)
		}
	}
	expectNotRead(t, api.Long, strings.Repeat("Ab", api.MaxFlags+1)+"A", api.ErrFlag)
	unlike := byteFlags()[:api.MaxFlags+1]
	expectRead(t, api.Short, textOf(unlike[:api.MaxFlags]), unlike[:api.MaxFlags])
	expectNotRead(t, api.Short, textOf(unlike), api.ErrMany)
}

func TestReadAsksForTheKindFirst(t *testing.T) { // P3.2
	for _, kind := range noKinds {
		for _, s := range []string{"", "A", "Ab", "7", "/", strings.Repeat("A", api.MaxFlags+1)} {
			expectNotRead(t, kind, s, api.ErrKind)
		}
	}
}

func expectRead(t *testing.T, kind int, s string, want flags.Set) {
	t.Helper()
	if got, e := flags.Read(kind, s); e != api.OK || !slices.Equal(got, want) {
		t.Errorf("Read(%d, %.40q) = %v, %d; want %v", kind, s, got, e, want)
	}
}

func expectNotRead(t *testing.T, kind int, s string, want api.Errno) {
	t.Helper()
	if got, e := flags.Read(kind, s); e != want || len(got) != 0 {
		t.Errorf("Read(%d, %.40q) = %v, %d; want none, %d", kind, s, got, e, want)
	}
}

// byteFlags: all flags of the kind Short, rising.
func byteFlags() flags.Set {
	var all flags.Set
	for b := range 256 {
		if isFlagByte(b) {
			all = append(all, api.Flag(b))
		}
	}
	return all
}

func textOf(set flags.Set) string {
	var text []byte
	for _, f := range set {
		text = append(text, byte(f))
	}
	return string(text)
}

func TestShowWritesThemRisingEachOnce(t *testing.T) { // P3.3
	for _, c := range []struct {
		kind int
		fs   []api.Flag
		want string
	}{
		{api.Short, nil, ""},
		{api.Long, []api.Flag{}, ""},
		{api.Numbers, nil, ""},
		{api.Short, []api.Flag{66, 65, 66}, "AB"},
		{api.Short, []api.Flag{126, 33}, "!~"},
		{api.Long, []api.Flag{31354, 16738, 31354}, "Abzz"},
		{api.Long, []api.Flag{33 * 257, 126 * 257}, "!!~~"},
		{api.Numbers, []api.Flag{300, 7}, "7,300"},
		{api.Numbers, []api.Flag{65535, 1, 1}, "1,65535"},
		{api.Numbers, []api.Flag{10, 9, 100}, "9,10,100"},
	} {
		expectShow(t, c.kind, c.want, c.fs...)
	}
}

func TestShowOfEveryNumber(t *testing.T) { // P3.3
	for n := range 1 << 16 {
		f := api.Flag(n)
		high, low := n/256, n%256
		if isFlagByte(n) {
			expectShow(t, api.Short, string([]byte{byte(n)}), f)
		} else {
			expectNotShow(t, api.Short, api.ErrFlag, f)
		}
		if isFlagByte(high) && isFlagByte(low) {
			expectShow(t, api.Long, string([]byte{byte(high), byte(low)}), f)
		} else {
			expectNotShow(t, api.Long, api.ErrFlag, f)
		}
		if n > 0 {
			expectShow(t, api.Numbers, strconv.Itoa(n), f)
		} else {
			expectNotShow(t, api.Numbers, api.ErrFlag, f)
		}
	}
}

func TestShowRefusesOneThatIsNoFlagAmongOthers(t *testing.T) { // P3.3
	for _, c := range []struct {
		kind       int
		good, none api.Flag
	}{
		{api.Short, 65, 0}, {api.Short, 65, 300}, {api.Short, 65, 65 + 256}, {api.Short, 65, ','}, {api.Short, 65, 32}, {api.Short, 65, 127},
		{api.Long, 16738, 0}, {api.Long, 16738, 65}, {api.Long, 16738, 65 * 256}, {api.Long, 16738, 65*256 + '/'}, {api.Long, 16738, '#'*256 + 65}, {api.Long, 16738, 65535},
		{api.Numbers, 7, 0},
	} {
		expectNotShow(t, c.kind, api.ErrFlag, c.good, c.none)
		expectNotShow(t, c.kind, api.ErrFlag, c.none, c.good)
		expectNotShow(t, c.kind, api.ErrFlag, c.good, c.none, c.good)
	}
}

func TestShowTakesNoMoreUnlikeOnesThanTheMost(t *testing.T) { // P3.3
	short := byteFlags()[:api.MaxFlags+1]
	var long, numbers flags.Set
	var decimals []string
	for i := range api.MaxFlags + 1 {
		long = append(long, 65*256+short[i])
		numbers = append(numbers, api.Flag(i+1))
		decimals = append(decimals, strconv.Itoa(i+1))
	}
	const most = api.MaxFlags
	expectShow(t, api.Short, textOf(short[:most]), short[:most]...)
	expectShow(t, api.Numbers, strings.Join(decimals[:most], ","), numbers[:most]...)
	if s, e := flags.Show(api.Long, long[:most]...); e != api.OK || len(s) != 2*most {
		t.Errorf("Show(Long, the most) = %q, %d", s, e)
	}
	for kind, set := range map[int]flags.Set{api.Short: short, api.Long: long, api.Numbers: numbers} {
		expectNotShow(t, kind, api.ErrMany, set...)
		// What is no flag is told ahead of too many.
		expectNotShow(t, kind, api.ErrFlag, append([]api.Flag{0}, set...)...)
		// Repeats don't count here.
		if _, e := flags.Show(kind, slices.Concat(set[:most], set[:most], set[:most])...); e != api.OK {
			t.Errorf("Show(%d, the most, three times) = %d", kind, e)
		}
		if _, e := flags.Show(kind, slices.Repeat(set[:1], 9999)...); e != api.OK {
			t.Errorf("Show(%d, one flag many times) = %d", kind, e)
		}
	}
	expectNotShow(t, api.Short, api.ErrFlag, slices.Concat(short, flags.Set{65535})...)
	expectNotShow(t, api.Long, api.ErrFlag, slices.Concat(long, flags.Set{65535})...)
}

func TestShowAsksForTheKindFirst(t *testing.T) { // P3.3
	for _, kind := range noKinds {
		expectNotShow(t, kind, api.ErrKind)
		expectNotShow(t, kind, api.ErrKind, 65)
		expectNotShow(t, kind, api.ErrKind, 0)
		expectNotShow(t, kind, api.ErrKind, byteFlags()...)
	}
}

func expectShow(t *testing.T, kind int, want string, fs ...api.Flag) {
	t.Helper()
	if s, e := flags.Show(kind, fs...); s != want || e != api.OK {
		t.Errorf("Show(%d, %v) = %q, %d; want %q", kind, fs, s, e, want)
	}
}

func expectNotShow(t *testing.T, kind int, want api.Errno, fs ...api.Flag) {
	t.Helper()
	if s, e := flags.Show(kind, fs...); s != "" || e != want {
		t.Errorf("Show(%d, %v) = %q, %d; want none, %d", kind, fs, s, e, want)
	}
}

func TestReadGivesBackWhatWasShown(t *testing.T) { // P3.2, P3.3
	for _, kind := range kinds {
		for _, s := range []string{"5", "55", "5,7", "57", "AbAc", "zA", "9,8,7,9"} {
			set, e := flags.Read(kind, s)
			if e != api.OK {
				continue
			}
			shown, e := flags.Show(kind, set...)
			if e != api.OK {
				t.Errorf("Show(%d, %v) = %d", kind, set, e)
			}
			expectRead(t, kind, shown, set)
		}
	}
}
