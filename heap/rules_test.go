package heap_test

import (
	"math"
	"slices"
	"strings"
	"sync"
	"testing"

	"hornbook/heap"
)

// What the document says of all layers, held at this one.

func TestTheZeroHeapHasNoItemsAndNoLess(t *testing.T) { // P1
	for _, h := range []*heap.Heap[int]{{}, new(heap.Heap[int])} {
		expectNone(t, h)
		h.Push(3, 1)
		expectReplaced(t, h, 2, 3)
		expectDrained(t, h, 1, 2)
		expectPutIn(t, h, 9)
	}
}

// noOrders: functions that no order is made of.
func noOrders() map[string]func(a, b int) bool {
	asked := 0
	return map[string]func(a, b int) bool{
		"always":          func(a, b int) bool { return true },
		"never":           func(a, b int) bool { return false },
		"not above":       func(a, b int) bool { return a <= b },
		"not alike":       func(a, b int) bool { return a != b },
		"in a ring":       func(a, b int) bool { return (a-b+300)%3 == 1 },
		"alike if near":   func(a, b int) bool { return a+2 < b },
		"each other time": func(a, b int) bool { asked++; return asked%2 == 0 },
		"each third time": func(a, b int) bool { asked++; return asked%3 == 0 },
	}
}

func TestEveryCallEndsWhateverLessIs(t *testing.T) { // P1, section 'Words of this layer'
	for name, less := range noOrders() {
		h := heap.New(less, 3, 1, 2, 2, 1, 3)
		for n := range 200 {
			h.Push(n%7, n%5, n%3)
			h.Replace(n % 4)
			h.Peek()
			h.Pop()
		}
		// What comes out is free, but it can't be more or less than was put in.
		if got := h.Len(); got != 406 {
			t.Errorf("%s: Len() = %d", name, got)
		}
		if got := h.Drain(); len(got) != 406 || h.Len() != 0 {
			t.Errorf("%s: Drain answers %d items and leaves %d", name, len(got), h.Len())
		}
	}
}

func TestALessThatWorksOnItsOwnHeap(t *testing.T) { // P1
	calls := []func(h *heap.Heap[int], x int){
		func(h *heap.Heap[int], x int) { h.Push(x, x-1, x) },
		func(h *heap.Heap[int], x int) { h.Pop() },
		func(h *heap.Heap[int], x int) { h.Peek() },
		func(h *heap.Heap[int], x int) { h.Replace(x) },
		func(h *heap.Heap[int], x int) { h.Drain() },
	}
	for n := range 20 {
		for _, outer := range calls {
			for _, inner := range calls {
				var h *heap.Heap[int]
				meddles := false
				h = heap.New(func(a, b int) bool {
					if meddles {
						meddles = false
						inner(h, a)
						meddles = true
					}
					return a < b
				})
				for i := range n {
					h.Push(i)
				}
				meddles = true
				outer(h, n)
				outer(h, -n)
			}
		}
	}
}

func TestNoCallPanics(t *testing.T) { // P1, rules 5 and 6
	ints := []int{math.MinInt, -1, 0, 1, 2, 1 << 32, math.MaxInt}
	texts := []string{"", "a", "\x00", "\xff", "\xc3", strings.Repeat("ab", 99999)}
	items, words := heap.Items(), heap.Words()
	for range 3 {
		for _, key := range ints {
			for _, tag := range ints {
				items.Push(item(key, tag))
				items.Replace(item(tag, key))
				heap.Items(item(key, tag), item(tag, key)).Drain()
			}
		}
		for _, text := range texts {
			words.Push(text)
			words.Push(texts...)
			words.Replace(text)
			heap.Words(text, text).Drain()
		}
		for range 20 {
			items.Peek()
			items.Pop()
			words.Peek()
			words.Pop()
		}
		items.Drain()
		words.Drain()
	}
}

func TestItemsOfEachKind(t *testing.T) { // P7.1: any type may be an item
	lists := heap.New(func(a, b []int) bool { return len(a) < len(b) }, []int{1, 2}, nil, []int{3})
	for want := range 3 {
		if got, ok := lists.Pop(); len(got) != want || !ok {
			t.Errorf("%v, %v", got, ok)
		}
	}
	if got, ok := lists.Pop(); got != nil || ok {
		t.Errorf("%v, %v", got, ok)
	}
	numbers := heap.New(func(a, b float64) bool { return a < b }, 0.5, math.Inf(1), -0.5, math.Inf(-1))
	expectDrained(t, numbers, math.Inf(-1), -0.5, 0.5, math.Inf(1))
	calls := heap.New[func() int](nil, func() int { return 1 }, func() int { return 2 })
	for want := 1; want <= 2; want++ {
		if f, ok := calls.Pop(); !ok || f() != want {
			t.Errorf("the function is not number %d", want)
		}
	}
	if f, ok := calls.Pop(); f != nil || ok {
		t.Errorf("a function of no items")
	}
	mixed := heap.New[any](nil, 1, "a", nil)
	expectPop(t, mixed, any(1), any("a"), nil)
	expectNone(t, mixed)
	nothing := heap.New[struct{}](nil, struct{}{}, struct{}{})
	expectDrained(t, nothing, struct{}{}, struct{}{})
}

func TestAskedOfItemsThatAreInAlone(t *testing.T) { // rule 8
	in := map[int]int{4: 1, 2: 1, 9: 1}
	less := func(a, b int) bool {
		if in[a] == 0 || in[b] == 0 {
			t.Errorf("less was asked of %d and %d", a, b)
		}
		return a < b
	}
	h := heap.New(less, 4, 2, 9)
	expectPop(t, h, 2)
	delete(in, 2)
	in[7] = 1
	h.Push(7)
	expectPop(t, h, 4)
	delete(in, 4)
	in[8] = 1
	expectReplaced(t, h, 8, 7)
	delete(in, 7)
	expectDrained(t, h, 8, 9)
	clear(in)
	in[5], in[6] = 1, 1
	h.Push(6, 5)
	expectDrained(t, h, 5, 6)
}

func TestListsThatAreHandedInStay(t *testing.T) { // rule 4
	// Behind the list's length lies what no call may read or write.
	list := []string{"c", "a", "b", "behind", "behind"}
	as := slices.Clone(list)
	h := heap.Words(list[:3]...)
	h.Push(list[:2]...)
	expectPop(t, h, "a", "a", "b")
	h.Push("d")
	expectReplaced(t, h, "e", "c")
	if !slices.Equal(list, as) {
		t.Errorf("the list became %q", list)
	}
	expectDrained(t, h, "c", "d", "e")
	if !slices.Equal(list, as) {
		t.Errorf("the list became %q", list)
	}
}

func TestListsThatAreHandedInAreNotKept(t *testing.T) { // rule 4
	made := map[string]func(items ...heap.Item) *heap.Heap[heap.Item]{
		"New":   func(items ...heap.Item) *heap.Heap[heap.Item] { return heap.New(heap.Item.Less, items...) },
		"alike": func(items ...heap.Item) *heap.Heap[heap.Item] { return heap.New(nil, items...) },
		"Items": heap.Items,
		"Push": func(items ...heap.Item) *heap.Heap[heap.Item] {
			h := heap.Items()
			h.Push(items...)
			return h
		},
	}
	for name, of := range made {
		list := tagged(1, 4, 5, 6)
		h := of(list...)
		clear(list)
		list = append(list[:0], item(-9, -9))
		if got := h.Drain(); !slices.Equal(got, tagged(1, 4, 5, 6)) {
			t.Errorf("%s keeps its list: %v", name, got)
		}
	}
	words := []string{"b", "a"}
	h := heap.Words(words...)
	words[0], words[1] = "x", "y"
	expectDrained(t, h, "a", "b")
}

func TestListsThatAreAnsweredAreNew(t *testing.T) { // P7.4, rule 4
	h := heap.Items(tagged(1, 3, 1, 2)...)
	first := h.Drain()
	h.Push(tagged(4, 9, 8, 7)...)
	if !slices.Equal(first, []heap.Item{item(1, 2), item(2, 3), item(3, 1)}) {
		t.Errorf("the list that was answered became %v", first)
	}
	clear(first)
	_ = append(first[:1], item(0, 0), item(0, 0), item(0, 0))
	expectPeek(t, h, item(7, 6))
	second := h.Drain()
	h.Push(tagged(7, 3, 2, 1)...)
	third := h.Drain()
	clear(second)
	_ = append(second[:0], item(0, 0), item(0, 0), item(0, 0))
	if !slices.Equal(third, []heap.Item{item(1, 9), item(2, 8), item(3, 7)}) {
		t.Errorf("the other list became %v", third)
	}
	expectNone(t, h)
	// And nothing of the heap's lies behind the length of what is answered.
	h.Push(tagged(1, make([]int, 100)...)...)
	for range 95 {
		h.Pop()
	}
	got := h.Drain()
	for _, behind := range got[len(got):cap(got)] {
		if behind != item(0, 0) {
			t.Errorf("%v lies behind the list", behind)
		}
	}
}

func TestHeapsSideBySide(t *testing.T) { // P2
	list := tagged(1, 2, 1, 1)
	a, b := heap.Items(list...), heap.Items(list...)
	a.Push(item(0, 4))
	expectPeek(t, b, item(1, 2))
	expectPop(t, b, item(1, 2))
	expectReplaced(t, b, item(1, 5), item(1, 3))
	expectLen(t, a, 4)
	expectPop(t, a, item(0, 4), item(1, 2), item(1, 3), item(2, 1))
	expectNone(t, a)
	expectLen(t, b, 2)
	a.Push(item(7, 6))
	expectDrained(t, b, item(1, 5), item(2, 1))
	expectDrained(t, a, item(7, 6))
	// One is filled from the other.
	a.Push(tagged(7, 3, 3)...)
	b.Push(a.Drain()...)
	expectNone(t, a)
	expectDrained(t, b, item(3, 7), item(3, 8))
	words := heap.Words("b")
	others := heap.Words("a")
	expectReplaced(t, words, "c", "b")
	expectDrained(t, others, "a")
	expectDrained(t, words, "c")
}

func TestNothingIsKeptBetweenHeaps(t *testing.T) { // rule 8
	for range 3 {
		h := heap.Items(tagged(1, 3, 1, 3, 1)...)
		expectDrained(t, h, item(1, 2), item(1, 4), item(3, 1), item(3, 3))
		left := heap.Items(tagged(1, 0, 0, 0)...)
		left.Pop()
	}
}

func TestHeapsAtTheSameTime(t *testing.T) { // P2
	var wait sync.WaitGroup
	got := make([][]heap.Item, 16)
	for i := range got {
		wait.Go(func() {
			h := heap.Items()
			for n := range 200 {
				h.Push(item(n%3, i), item(n%2, i))
				h.Replace(item(5, i))
			}
			got[i] = h.Drain()
		})
	}
	wait.Wait()
	for i, items := range got {
		if len(items) != 400 || !slices.IsSortedFunc(items, func(a, b heap.Item) int { return a.Key - b.Key }) {
			t.Errorf("heap %d answers %d items: %v", i, len(items), items)
		}
		for _, x := range items {
			if x.Tag != i {
				t.Errorf("heap %d has an item of heap %d", i, x.Tag)
			}
		}
	}
}
