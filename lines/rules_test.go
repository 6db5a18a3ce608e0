package lines_test

import (
	"math"
	"slices"
	"strings"
	"sync"
	"testing"

	"hornbook/api"
	"hornbook/lines"
)

// What the document says of all layers, held at this one.

func TestNoCallPanics(t *testing.T) { // P1, rules 5 and 6
	every := make([]byte, 256)
	for i := range every {
		every[i] = byte(i)
	}
	texts := []string{"", mark, mark[:1], mark[:2], "\r", "\n", "#", " ", "\xff", string(every), strings.Repeat(string(every), 300)}
	for _, text := range texts {
		lines.Split(text)
		lines.Rows(text)
		lines.Fields(text)
		for range lines.Each(text) {
		}
		lines.Show([]string{text}, nil, []string{text, text})
		for _, n := range []int{math.MinInt, math.MinInt + 1, -1, 0, 1, math.MaxInt - 1, math.MaxInt} {
			lines.Number(text, n)
			lines.Decimal(n)
		}
	}
	lines.Show()
	lines.Show(nil)
	lines.Show(nil, nil)
}

func TestNothingBesideAnError(t *testing.T) { // rule 2
	long := strings.Repeat("a\n", api.MaxText)
	if list, e := lines.Split(long); e != api.ErrLong || len(list) != 0 {
		t.Errorf("Split: %d lines beside %d", len(list), e)
	}
	if rows, e := lines.Rows(long); e != api.ErrLong || len(rows) != 0 {
		t.Errorf("Rows: %d rows beside %d", len(rows), e)
	}
	for _, rows := range [][][]string{{{"a"}, {"b", ""}}, {{"a"}, {}}, {{"a"}, {strings.Repeat("b", api.MaxText)}}} {
		if text, e := lines.Show(rows...); e == api.OK || text != "" {
			t.Errorf("Show: %.40q beside %d", text, e)
		}
	}
	for _, s := range []string{"12x", "129", "1200"} {
		if n, e := lines.Number(s, 128); e != api.ErrNumber || n != 0 {
			t.Errorf("Number(%q): %d beside %d", s, n, e)
		}
	}
}

func TestShowLeavesItsRowsAlone(t *testing.T) { // rule 4
	memory := []string{"a", "b", "behind", "further behind"}
	rows := [][]string{memory[:2], {"c"}, {"", "never handed in"}}
	handed := rows[:2]
	text, e := lines.Show(handed...)
	if text != "a b\nc\n" || e != api.OK {
		t.Errorf("%q, %d: what lies behind the lists was read", text, e)
	}
	if !slices.Equal(memory, []string{"a", "b", "behind", "further behind"}) || len(rows[2]) != 2 || len(handed) != 2 {
		t.Errorf("what was handed in was changed: %q %q", memory, rows)
	}
	memory[0] = "x"
	if text != "a b\nc\n" {
		t.Errorf("the answer changed with what was handed in: %q", text)
	}
}

func TestAnswersAreNewMemory(t *testing.T) { // rule 4, P2
	const text = "a b # remark\nc d\n"
	first, _ := lines.Split(text)
	spoil(first)
	if second, _ := lines.Split(text); !slices.Equal(second, []string{"a b # remark", "c d"}) {
		t.Errorf("Split: %q", second)
	}
	fields := lines.Fields("a b")
	spoil(fields)
	if again := lines.Fields("a b"); !slices.Equal(again, []string{"a", "b"}) {
		t.Errorf("Fields: %q", again)
	}
	rows, _ := lines.Rows(text)
	spoil(rows[0].Fields)
	if !slices.Equal(rows[1].Fields, []string{"c", "d"}) {
		t.Errorf("one row wrote into the next: %q", rows[1].Fields)
	}
	if again, _ := lines.Rows(text); !slices.Equal(again[0].Fields, []string{"a", "b"}) {
		t.Errorf("Rows: %q", again[0].Fields)
	}
}

// spoil overwrites a list as far as its memory goes.
func spoil(list []string) {
	list = list[:cap(list)]
	for i := range list {
		list[i] = "spoilt"
	}
}

func TestNothingIsKeptBetweenCalls(t *testing.T) { // rules 3 and 8, P2
	ask := func() []string {
		list, _ := lines.Split("a\nb")
		text, _ := lines.Show([]string{"a"}, []string{"b"})
		n, _ := lines.Number("12", 12)
		return append(list, text, lines.Decimal(n))
	}
	before := ask()
	lines.Split(strings.Repeat("x", api.MaxText+1))
	lines.Rows(strings.Repeat("x", api.MaxText+1))
	lines.Show([]string{"x"}, []string{"#"})
	lines.Number("99", 98)
	for range lines.Each("x\ny\nz") {
		break
	}
	if after := ask(); !slices.Equal(before, after) {
		t.Errorf("%q became %q", before, after)
	}
}

func TestIteratorsMadeApart(t *testing.T) { // P2
	one, other := lines.Each("a\nb\nc"), lines.Each("1\n2\n3\n4")
	var wait sync.WaitGroup
	got := make([]string, 16)
	for i := range got {
		wait.Go(func() {
			each := one
			if i%2 == 1 {
				each = other
			}
			for _, line := range each {
				got[i] += line
			}
		})
	}
	wait.Wait()
	for i, s := range got {
		if want := []string{"abc", "1234"}[i%2]; s != want {
			t.Errorf("walk %d: %q", i, s)
		}
	}
}
