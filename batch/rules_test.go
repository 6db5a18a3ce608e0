package batch_test

import (
	"fmt"
	"math"
	"slices"
	"strings"
	"sync"
	"testing"

	"hornbook/api"
	"hornbook/batch"
	"hornbook/runs"
)

// What the document says of all layers, held at this one.

func TestOfANilFormer(t *testing.T) { // P1, P9.2 to P9.4
	var f *batch.Former
	expectRefuses(t, f, api.FailNil)
	f.Drop()
	expectRefuses(t, f, api.FailNil)
}

func TestTheZeroFormerIsClosed(t *testing.T) { // P1
	for _, f := range []*batch.Former{{}, new(batch.Former)} {
		expectRefuses(t, f, api.FailClosed)
		f.Drop()
		expectRefuses(t, f, api.FailClosed)
	}
}

func TestOfTheZeroStore(t *testing.T) { // P1
	s := new(runs.Store)
	expectFinished(t, former(t, s, 1))
	expectError(t, former(t, s, 1).Add(""), api.FailFull)
	f := former(t, s, 2)
	add(t, f, "a")
	expectNotFinished(t, f, api.FailFull)
	expectLive(t, s)
}

func TestNoCallPanics(t *testing.T) { // P1, rules 5 and 6
	ints := []int{math.MinInt, -1, 0, 1, 2, 3, 255, 256, api.MaxBuffer, api.MaxBuffer + 1, 1 << 32, math.MaxInt}
	texts := []string{"", "a", "\x00", "\xff", "\xc3", long(255), long(256), strings.Repeat("ab", 99999)}
	for _, capacity := range ints {
		for _, buffer := range ints {
			for _, refused := range []int{0, 1, 2, 3, 4} {
				s := runs.New(capacity)
				s.Break(refused)
				f, _ := batch.New(s, buffer)
				f.Add(texts...)
				for _, text := range texts {
					f.Add(text)
				}
				f.Add(texts[:6]...)
				f.Add()
				f.Finish()
				f.Add("a")
				f.Drop()
				f.Drop()
				f.Finish()
			}
		}
	}
}

func TestListsThatAreHandedInStay(t *testing.T) { // rule 4
	for _, buffer := range []int{1, 2, 3, 4, 9} {
		// Behind the list's length lies what no call may read or write.
		list := []string{"c", "a", "c", "b", "behind", "behind"}
		as := slices.Clone(list)
		s := runs.New(1000)
		f := former(t, s, buffer)
		add(t, f, list[:4]...)
		add(t, f, list[:0]...)
		made, _ := f.Finish()
		if !slices.Equal(list, as) {
			t.Errorf("buffer %d: the list became %q", buffer, list)
		}
		for _, run := range made {
			size, _ := s.Size(run)
			if text, _ := s.Read(run, 0, size); strings.Contains(text, "behind") {
				t.Errorf("buffer %d: run %d is %q", buffer, run, text)
			}
		}
		// Nor by a refused Add, or one of a former that dies of it.
		f = former(t, s, 2)
		expectError(t, f.Add(append(list[:4:4], long(256))...), api.FailRecord)
		s.Break(2)
		expectError(t, f.Add(list[:4]...), api.FailBroken)
		if !slices.Equal(list, as) {
			t.Errorf("buffer %d: the list became %q", buffer, list)
		}
	}
}

func TestListsThatAreHandedInAreNotKept(t *testing.T) { // rule 4
	for _, n := range []int{1, 2, 3} {
		// The list is just as long as the buffer, shorter, and longer.
		s := runs.New(1000)
		f := former(t, s, 2)
		list := []string{"b", "a", "c"}[:n]
		add(t, f, list...)
		for i := range list {
			list[i] = "x"
		}
		_ = append(list[:0], "y", "y", "y")
		add(t, f, "d")
		list[0] = "z"
		made, _ := f.Finish()
		for _, run := range made {
			size, _ := s.Size(run)
			if text, _ := s.Read(run, 0, size); strings.ContainsAny(text, "xyz") {
				t.Errorf("of %d words: run %d is %q", n, run, text)
			}
		}
	}
}

func TestListsThatAreAnsweredAreNew(t *testing.T) { // P9.3, rule 4
	s := runs.New(1000)
	f, g := former(t, s, 1), former(t, s, 1)
	for _, w := range numbered(5) {
		add(t, f, w)
		add(t, g, w)
	}
	first, err := f.Finish()
	expectError(t, err, nil)
	clear(first)
	_ = append(first[:1], -1, -1, -1, -1, -1, -1)
	expectFinished(t, g, 2, 4, 6, 8, 10)
	// What the former kept would show by what Drop removes.
	f.Drop()
	expectLive(t, s, 1, 2, 3, 4, 5, 6, 7, 8, 9, 10)
	h := former(t, s, 1)
	add(t, h, "a")
	second, _ := h.Finish()
	for _, behind := range second[len(second):cap(second)] {
		if behind != 0 {
			t.Errorf("%d lies behind the list", behind)
		}
	}
}

func TestFormersOfTwoStores(t *testing.T) { // P2
	s, other := runs.New(3), runs.New(30)
	f, g := former(t, s, 2), former(t, other, 2)
	add(t, f, "a")
	add(t, g, "c", "b", "d")
	expectError(t, f.Add("b"), api.FailFull)
	expectLive(t, s)
	expectLive(t, other, 1)
	expectFinished(t, g, 1, 2)
	f.Drop()
	expectRun(t, other, 1, "b", "c")
	expectRun(t, other, 2, "d")
}

func TestNothingIsKeptBetweenFormers(t *testing.T) { // rule 8
	for range 3 {
		s := runs.New(10)
		f := former(t, s, 2)
		add(t, f, "b", "a", "c")
		expectFinished(t, f, 1, 2)
		dead := former(t, s, 1)
		expectError(t, dead.Add("abcd"), api.FailFull)
		expectError(t, dead.Add("a", long(256)), api.FailFull)
		dropped := former(t, s, 5)
		add(t, dropped, "x", "y")
		dropped.Drop()
		expectRun(t, s, 1, "a", "b")
		expectRun(t, s, 2, "c")
	}
}

func TestStoresAtTheSameTime(t *testing.T) { // P2
	var wait sync.WaitGroup
	got := make([]string, 16)
	for i := range got {
		wait.Go(func() {
			s := runs.New(100000)
			f, err := batch.New(s, i+1)
			if err != nil {
				got[i] = err.Error()
				return
			}
			for n := range 60 {
				f.Add(fmt.Sprintf("%02d", 99-n), "00")
			}
			list, err := f.Finish()
			got[i] = fmt.Sprint(len(list), s.Live()[0], err)
		})
	}
	wait.Wait()
	for i, text := range got {
		if want := fmt.Sprint((120+i)/(i+1), 1, nil); text != want {
			t.Errorf("store %d: %s; want %s", i, text, want)
		}
	}
}
