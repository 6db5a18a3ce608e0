package record_test

import (
	"slices"
	"strings"
	"testing"

	"hornbook/api"
	"hornbook/record"
)

func expectFrames(t *testing.T, want string, recs ...string) {
	t.Helper()
	if got, e := record.Frame(recs...); got != want || e != api.OK {
		t.Errorf("Frame(%.60q) = %.60q, %d; want %.60q", recs, got, e, want)
	}
}

func TestFrames(t *testing.T) { // P6.3, P6.4
	for _, c := range []struct {
		frames string
		recs   []string
	}{
		{"", nil},
		{"\x00", []string{""}},
		{"\x00\x00\x00", []string{"", "", ""}},
		{"\x02ab\x00", []string{"ab", ""}},
		{"\x00\x02ab", []string{"", "ab"}},
		{"\x01a\x02bc\x03def", []string{"a", "bc", "def"}},
		{"\x01a\x01a", []string{"a", "a"}},
		{"\x02b\x00\x01\x00\x01\xff", []string{"b\x00", "\x00", "\xff"}},
		{"\x03\x02ab", []string{"\x02ab"}},
		{"\x7f" + long(127), []string{long(127)}},
		{"\x80\x01" + long(128), []string{long(128)}},
		{"\xfe\x01" + long(254) + "\x01a", []string{long(254), "a"}},
		{"\xff\x01" + long(255), []string{long(255)}},
		{"\x01a\xff\x01" + long(255) + "\x00\xff\x01" + long(255), []string{"a", long(255), "", long(255)}},
		{"\xff\x01" + everyByte()[1:], []string{everyByte()[1:]}},
	} {
		expectFrames(t, c.frames, c.recs...)
		expectUnframed(t, c.frames, c.recs...)
	}
}

func TestFramesOfEachLength(t *testing.T) { // P6.3, P6.4
	for n := range api.MaxRecord + 1 {
		frame := record.Uint(uint64(n)) + long(n)
		expectFrames(t, frame, long(n))
		expectFrames(t, frame+"\x01a"+frame, long(n), "a", long(n))
		expectUnframed(t, frame+"\x01a"+frame, long(n), "a", long(n))
	}
}

func TestFrameOfTooLongARecord(t *testing.T) { // P6.3
	for _, recs := range [][]string{
		{long(256)},
		{long(257)},
		{long(70000)},
		{"a", long(256)},
		{long(256), "a"},
		{"a", "", long(256), "b"},
		{long(255), long(256)},
		{long(300), long(300)},
	} {
		if got, e := record.Frame(recs...); got != "" || e != api.ErrRecord {
			t.Errorf("Frame of %d records = %.60q, %d", len(recs), got, e)
		}
	}
}

func TestUnframeOfATornLength(t *testing.T) { // P6.4
	for _, ahead := range []string{"", "\x00", "\x02ab", "\xff\x01" + long(255)} {
		for n := 1; n <= 9; n++ {
			expectNotUnframed(t, ahead+strings.Repeat("\x80", n), api.ErrShort)
			expectNotUnframed(t, ahead+strings.Repeat("\xff", n), api.ErrShort)
		}
		for n := 10; n <= 12; n++ {
			expectNotUnframed(t, ahead+strings.Repeat("\x80", n), api.ErrForm)
			expectNotUnframed(t, ahead+strings.Repeat("\x80", n)+"\x01", api.ErrForm)
		}
		for n := 1; n <= 9; n++ {
			expectNotUnframed(t, ahead+strings.Repeat("\x80", n)+"\x00", api.ErrForm)
			expectNotUnframed(t, ahead+"\x81"+strings.Repeat("\x80", n-1)+"\x00a", api.ErrForm)
		}
		expectNotUnframed(t, ahead+strings.Repeat("\xff", 9)+"\x02", api.ErrForm)
	}
}

func TestUnframeOfTooGreatALength(t *testing.T) { // P6.4
	for _, ahead := range []string{"", "\x00", "\x02ab"} {
		for _, length := range []uint64{256, 257, 300, 16384, 1 << 31, 1 << 32, 1<<32 + 1, 1 << 63, 1<<64 - 1} {
			// It is refused ahead of the bytes being counted, be there enough or not.
			expectNotUnframed(t, ahead+record.Uint(length), api.ErrRecord)
			expectNotUnframed(t, ahead+record.Uint(length)+"a", api.ErrRecord)
			expectNotUnframed(t, ahead+record.Uint(length)+long(17000), api.ErrRecord)
		}
	}
}

func TestUnframeOfTooFewBytes(t *testing.T) { // P6.4
	for _, n := range []int{1, 2, 3, 127, 128, 129, 254, 255} {
		frame, _ := record.Frame(long(n))
		for _, ahead := range []string{"", "\x00", "\x02ab"} {
			for cut := len(ahead) + 1; cut < len(ahead+frame); cut++ {
				expectNotUnframed(t, (ahead + frame)[:cut], api.ErrShort)
			}
		}
	}
}

func TestUnframeTellsTheFirstFault(t *testing.T) { // P6.4
	short, form, great := "\x05abc", "\x80\x00", "\x80\x02"
	expectNotUnframed(t, form+great+short, api.ErrForm)
	expectNotUnframed(t, great+form+short, api.ErrRecord)
	expectNotUnframed(t, "\x01a"+great+form, api.ErrRecord)
	expectNotUnframed(t, "\x01a"+form+great, api.ErrForm)
	expectNotUnframed(t, "\x01a"+short, api.ErrShort)
	// A length that says too much takes in what would be a fault behind it.
	expectUnframed(t, "\x02"+form, form)
	expectNotUnframed(t, "\x03"+form, api.ErrShort)
}

// unframePlainly: the records ahead of the first fault, and that fault.
func unframePlainly(s string) ([]string, api.Errno) {
	var recs []string
	for at := 0; at < len(s); {
		n, next, e := readPlainly(s, at)
		switch {
		case e != api.OK:
			return recs, e
		case n > 255:
			return recs, api.ErrRecord
		case n > uint64(len(s)-next):
			return recs, api.ErrShort
		}
		at = next + int(n)
		recs = append(recs, s[next:at])
	}
	return recs, api.OK
}

func TestUnframeAgainstThePlainReading(t *testing.T) { // P6.4
	for _, s := range allTexts("\x00\x01\x02\x03a\x80\xff", 6) {
		recs, want := unframePlainly(s)
		if want != api.OK {
			expectNotUnframed(t, s, want)
			continue
		}
		expectUnframed(t, s, recs...)
		// A text that is read is the one text of its records.
		expectFrames(t, s, recs...)
	}
}

func TestUnframeUndoesFrame(t *testing.T) { // P6.3, P6.4
	var recs []string
	for i := range 2000 {
		recs = append(recs, everyByte()[i%7:i%7+i%250])
	}
	frames, e := record.Frame(recs...)
	if e != api.OK {
		t.Fatalf("Frame: %d", e)
	}
	got, e := record.Unframe(frames)
	if !slices.Equal(got, recs) || e != api.OK {
		t.Errorf("Unframe answers %d records, %d", len(got), e)
	}
}
