package record_test

import (
	"math"
	"math/big"
	"strings"
	"testing"

	"hornbook/api"
	"hornbook/record"
)

// numbers: numbers with their one form.
func numbers() map[uint64]string {
	return map[uint64]string{
		0:              "\x00",
		1:              "\x01",
		2:              "\x02",
		127:            "\x7f",
		128:            "\x80\x01",
		129:            "\x81\x01",
		255:            "\xff\x01",
		256:            "\x80\x02",
		300:            "\xac\x02",
		16383:          "\xff\x7f",
		16384:          "\x80\x80\x01",
		1<<32 - 1:      "\xff\xff\xff\xff\x0f",
		1 << 32:        "\x80\x80\x80\x80\x10",
		math.MaxInt64:  strings.Repeat("\xff", 8) + "\x7f",
		1 << 63:        strings.Repeat("\x80", 9) + "\x01",
		1<<64 - 2:      "\xfe" + strings.Repeat("\xff", 8) + "\x01",
		math.MaxUint64: strings.Repeat("\xff", 9) + "\x01",
	}
}

func TestNumbersInTheirOneForm(t *testing.T) { // P6.1
	for n, want := range numbers() {
		if got := record.Uint(n); got != want {
			t.Errorf("Uint(%d) = %q; want %q", n, got, want)
		}
	}
}

func TestReadUintReadsTheOneForm(t *testing.T) { // P6.2
	for n, form := range numbers() {
		expectNumber(t, form, 0, n, len(form))
		// What is ahead of the number and behind it makes no difference.
		for _, around := range []string{"\x00", "a", "\x7f", "\x80", "\xff", "\x80\x00", strings.Repeat("\xff", 12)} {
			expectNumber(t, around+form+around, len(around), n, len(around)+len(form))
		}
	}
}

func TestReadUintOfEachBit(t *testing.T) { // P6.1, P6.2
	for bit := range 64 {
		for _, n := range []uint64{1 << bit, 1<<bit - 1, 1<<bit + 1, math.MaxUint64 >> bit, math.MaxUint64 - 1<<bit} {
			form := record.Uint(n)
			if want := (max(bigOf(n).BitLen(), 1) + 6) / 7; len(form) != want {
				t.Errorf("Uint(%d) has %d bytes; want %d", n, len(form), want)
			}
			expectNumber(t, form, 0, n, len(form))
		}
	}
}

func TestReadUintAtNoPlace(t *testing.T) { // P6.2, rule 5
	for _, s := range []string{"", "\x05", "abc", "\x80\x01", strings.Repeat("\xff", 10), strings.Repeat("a", 20)} {
		for _, at := range []int{math.MinInt, -100, -1, len(s), len(s) + 1, len(s) + 9, math.MaxInt - 1, math.MaxInt} {
			expectNoNumber(t, s, at, api.ErrShort)
		}
	}
}

func TestReadUintAtEachPlace(t *testing.T) { // P6.2
	s := "\x05\x80\x01\x7f\xff\xff\x03\x00\x80"
	expectNumber(t, s, 0, 5, 1)
	expectNumber(t, s, 1, 128, 3)
	expectNumber(t, s, 2, 1, 3)
	expectNumber(t, s, 3, 127, 4)
	expectNumber(t, s, 4, 65535, 7)
	expectNumber(t, s, 5, 511, 7)
	expectNumber(t, s, 6, 3, 7)
	expectNumber(t, s, 7, 0, 8)
	expectNoNumber(t, s, 8, api.ErrShort)
}

func TestReadUintOfBytesWithoutALast(t *testing.T) { // P6.2
	for _, b := range []string{"\x80", "\x81", "\xfe", "\xff"} {
		for n := 0; n <= 9; n++ {
			expectNoNumber(t, strings.Repeat(b, n), 0, api.ErrShort)
			// Fewer than ten count from the place on alone.
			expectNoNumber(t, strings.Repeat(b, 30), 30-n, api.ErrShort)
		}
		for n := 10; n <= 25; n++ {
			expectNoNumber(t, strings.Repeat(b, n), 0, api.ErrForm)
			expectNoNumber(t, strings.Repeat(b, n)+"\x01", 0, api.ErrForm)
			expectNoNumber(t, strings.Repeat(b, n)+"\x00", 0, api.ErrForm)
			expectNoNumber(t, strings.Repeat(b, 30), 30-n, api.ErrForm)
		}
	}
}

func TestReadUintOfATenthByte(t *testing.T) { // P6.2
	for _, b := range []string{"\x80", "\x81", "\xff"} {
		ahead := strings.Repeat(b, 9)
		for last := range 256 {
			s := ahead + string([]byte{byte(last)})
			if last == 1 {
				n := uint64(1 << 63)
				for i := range 9 {
					n += uint64(b[0]-128) << (7 * i)
				}
				expectNumber(t, s, 0, n, 10)
				continue
			}
			expectNoNumber(t, s, 0, api.ErrForm)
		}
	}
	// A ninth byte may be what it likes, but 0.
	expectNumber(t, strings.Repeat("\x80", 8)+"\x7f", 0, 127<<56, 9)
	expectNumber(t, strings.Repeat("\x80", 8)+"\x02", 0, 1<<57, 9)
}

func TestReadUintOfALastByteNought(t *testing.T) { // P6.2
	expectNumber(t, "\x00", 0, 0, 1)
	expectNumber(t, "\x00\x00", 0, 0, 1)
	expectNumber(t, "\x80\x00", 1, 0, 2)
	for n := 1; n <= 12; n++ {
		expectNoNumber(t, strings.Repeat("\x80", n)+"\x00", 0, api.ErrForm)
		expectNoNumber(t, strings.Repeat("\xff", n)+"\x00\x01", 0, api.ErrForm)
	}
}

// readPlainly: a number is read as a great one, which must be below 2^64 and must
// have those bytes as its one form.
func readPlainly(s string, at int) (uint64, int, api.Errno) {
	if at < 0 || at > len(s) {
		return 0, 0, api.ErrShort
	}
	from := s[at:]
	last := strings.IndexFunc(from, func(r rune) bool { return r < 128 })
	if last < 0 && len(from) < 10 {
		return 0, 0, api.ErrShort
	}
	if last < 0 || last >= 10 {
		return 0, 0, api.ErrForm
	}
	sum := new(big.Int)
	for i := last; i >= 0; i-- {
		sum.Lsh(sum, 7).Add(sum, bigOf(uint64(from[i]%128)))
	}
	if sum.BitLen() > 64 || last > 0 && sum.BitLen() <= 7*last {
		return 0, 0, api.ErrForm
	}
	return sum.Uint64(), at + last + 1, api.OK
}

func bigOf(n uint64) *big.Int { return new(big.Int).SetUint64(n) }

func TestReadUintAgainstThePlainReading(t *testing.T) { // P6.2
	alphabet := "\x00\x01\x02\x7f\x80\x81\xff"
	for _, ahead := range []string{"", "\x80", "\xff", strings.Repeat("\x80", 5), strings.Repeat("\xff", 6),
		strings.Repeat("\x80", 7), strings.Repeat("\xfe", 8), strings.Repeat("\x80", 9), strings.Repeat("\xff", 10)} {
		for _, tail := range allTexts(alphabet, 4) {
			s := ahead + tail
			for at := -1; at <= len(s)+1; at++ {
				n, next, want := readPlainly(s, at)
				if want == api.OK {
					expectNumber(t, s, at, n, next)
				} else {
					expectNoNumber(t, s, at, want)
				}
			}
		}
		if t.Failed() {
			t.FailNow()
		}
	}
}

// allTexts: all texts of these bytes, up to that length.
func allTexts(alphabet string, length int) []string {
	texts := []string{""}
	for begin := 0; length > 0; length-- {
		end := len(texts)
		for _, text := range texts[begin:end] {
			for i := range len(alphabet) {
				texts = append(texts, text+alphabet[i:i+1])
			}
		}
		begin = end
	}
	return texts
}
