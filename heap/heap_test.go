package heap_test

import (
	"math"
	"slices"
	"strings"
	"testing"

	"hornbook/heap"
)

func TestOfNothing(t *testing.T) { // P7.1, P7.2, P7.4, P7.5
	expectNone(t, heap.New(heap.Item.Less))
	expectNone(t, heap.New(heap.Item.Less, []heap.Item{}...))
	expectNone(t, heap.New[int](nil))
	expectNone(t, heap.New[string](nil, []string(nil)...))
	expectNone(t, heap.Items())
	expectNone(t, heap.Items([]heap.Item{}...))
	expectNone(t, heap.Words())
	expectNone(t, heap.Words([]string(nil)...))
}

func TestNewGivesAHeapForNothingToo(t *testing.T) { // P7.1: not a nil one, into which nothing can be put
	numbers := heap.New[int](nil)
	numbers.Push(7)
	expectDrained(t, numbers, 7)
	items := heap.Items()
	items.Push(item(2, 1), item(1, 2))
	expectDrained(t, items, item(1, 2), item(2, 1))
	words := heap.Words()
	words.Push("b", "a")
	expectDrained(t, words, "a", "b")
}

func TestLenCountsWhatIsIn(t *testing.T) { // P7.1
	for n := range 40 {
		h := heap.Items(tagged(0, make([]int, n)...)...)
		expectLen(t, h, n)
		h.Push()
		expectLen(t, h, n)
		h.Push(item(1, 0))
		expectLen(t, h, n+1)
		h.Push(item(0, 0), item(2, 0), item(-1, 0))
		expectLen(t, h, n+4)
		h.Pop()
		expectLen(t, h, n+3)
	}
}

func TestTheOrderIsTheHandedInOne(t *testing.T) { // P7.1
	down := heap.New(func(a, b int) bool { return a > b }, 1, 5, 3)
	down.Push(4, 9)
	expectDrained(t, down, 9, 5, 4, 3, 1)
	byLength := heap.New(func(a, b string) bool { return len(a) < len(b) }, "ccc", "a", "bb")
	byLength.Push("dd", "", "e")
	expectDrained(t, byLength, "", "a", "e", "bb", "dd", "ccc")
	byTag := heap.New(func(a, b heap.Item) bool { return a.Tag < b.Tag }, item(1, 3), item(2, 2), item(3, 1))
	expectDrained(t, byTag, item(3, 1), item(2, 2), item(1, 3))
}

func TestANilLessKeepsTheOrderOfComing(t *testing.T) { // P7.1, section 'Words of this layer'
	expectDrained(t, heap.New[heap.Item](nil, item(9, 1), item(1, 2)), item(9, 1), item(1, 2))
	h := heap.New(nil, "c", "a", "b")
	h.Push("z", "y")
	h.Push("x")
	expectPeek(t, h, "c")
	expectReplaced(t, h, "d", "c")
	h.Push("")
	expectPop(t, h, "a", "b", "z")
	expectReplaced(t, h, "a", "y")
	expectDrained(t, h, "x", "d", "", "a")
	long := heap.New[int](nil)
	for n := range 300 {
		long.Push(299 - n)
	}
	for n := range 300 {
		expectPop(t, long, 299-n)
	}
	expectNone(t, long)
}

func TestPushOfSeveralKeepsTheirOrder(t *testing.T) { // P7.1
	at := heap.Items()
	at.Push()
	expectNone(t, at)
	at.Push(tagged(1, 5, 5, 5)...)
	at.Push()
	at.Push(tagged(4, 5, 4, 5, 4)...)
	expectDrained(t, at, item(4, 5), item(4, 7), item(5, 1), item(5, 2), item(5, 3), item(5, 4), item(5, 6))
}

func TestPopGivesTheLeast(t *testing.T) { // P7.2
	h := heap.Items(item(3, 1))
	expectPop(t, h, item(3, 1))
	expectNone(t, h)
	h.Push(item(2, 1), item(1, 2), item(3, 3))
	expectPop(t, h, item(1, 2))
	h.Push(item(0, 4))
	expectPop(t, h, item(0, 4), item(2, 1))
	h.Push(item(9, 5))
	expectPop(t, h, item(3, 3), item(9, 5))
	expectNone(t, h)
}

func TestTheZeroItemIsOneToo(t *testing.T) { // P7.2: the bool tells it from none
	h := heap.Items(item(0, 0))
	expectPeek(t, h, item(0, 0))
	expectReplaced(t, h, item(0, 0), item(0, 0))
	expectPop(t, h, item(0, 0))
	expectNone(t, h)
	words := heap.Words("", "")
	expectPop(t, words, "", "")
	expectNone(t, words)
	numbers := heap.New(nil, 0)
	expectPop(t, numbers, 0)
	expectNone(t, numbers)
}

func TestPeekLeavesAll(t *testing.T) { // P7.2
	h := heap.Items(tagged(1, 2, 1, 3, 1)...)
	for range 3 {
		expectPeek(t, h, item(1, 2))
		expectLen(t, h, 4)
	}
	expectPop(t, h, item(1, 2))
	for range 3 {
		expectPeek(t, h, item(1, 4))
		expectLen(t, h, 3)
	}
	expectDrained(t, h, item(1, 4), item(2, 1), item(3, 3))
	one := heap.Words("a")
	expectPeek(t, one, "a")
	expectPeek(t, one, "a")
	expectDrained(t, one, "a")
}

func TestManyAlikeComeInTheirOrder(t *testing.T) { // P7.2, P7.4
	for _, n := range []int{2, 3, 4, 7, 8, 15, 16, 100} {
		items := tagged(0, make([]int, n)...)
		expectDrained(t, heap.Items(items...), items...)
		h := heap.Items(items...)
		expectPeek(t, h, items[0])
		expectPop(t, h, items...)
		expectNone(t, h)
	}
}

func TestPopsOfATurningHeap(t *testing.T) { // P7.2: what goes out and in again comes behind its like
	for n := 1; n < 20; n++ {
		h := heap.Items(tagged(0, make([]int, n)...)...)
		for round := range 3 * n {
			expectPop(t, h, item(0, round))
			h.Push(item(0, n+round))
		}
		expectLen(t, h, n)
	}
}

func TestReplaceByAnAlikeOne(t *testing.T) { // P7.3
	h := heap.Items(item(1, 1), item(1, 2))
	expectReplaced(t, h, item(1, 3), item(1, 1))
	expectPop(t, h, item(1, 2), item(1, 3))
	expectNone(t, h)
	for n := 1; n < 20; n++ {
		h := heap.Items(tagged(0, make([]int, n)...)...)
		h.Push(item(7, -1))
		for round := range 3 * n {
			expectReplaced(t, h, item(0, n+round), item(0, round))
		}
		for round := range n {
			expectPop(t, h, item(0, 3*n+round))
		}
		expectDrained(t, h, item(7, -1))
	}
}

func TestReplaceBySmallerAndGreater(t *testing.T) { // P7.3: the least of those ahead of it, never the new one
	h := heap.Items(tagged(1, 5, 3, 4)...)
	expectReplaced(t, h, item(1, 4), item(3, 2))
	expectReplaced(t, h, item(2, 5), item(1, 4))
	expectReplaced(t, h, item(9, 6), item(2, 5))
	expectReplaced(t, h, item(5, 7), item(4, 3))
	expectDrained(t, h, item(5, 1), item(5, 7), item(9, 6))
	one := heap.Items(item(5, 1))
	expectReplaced(t, one, item(4, 2), item(5, 1))
	expectReplaced(t, one, item(6, 3), item(4, 2))
	expectReplaced(t, one, item(6, 4), item(6, 3))
	expectDrained(t, one, item(6, 4))
}

func TestReplaceOfNoItems(t *testing.T) { // P7.3
	h := heap.Items()
	expectPutIn(t, h, item(4, 1))
	expectReplaced(t, h, item(4, 2), item(4, 1))
	expectPop(t, h, item(4, 2))
	expectPutIn(t, h, item(0, 0))
	expectDrained(t, h, item(0, 0))
	expectPutIn(t, h, item(math.MinInt, 3))
	h.Push(item(math.MinInt, 4))
	expectDrained(t, h, item(math.MinInt, 3), item(math.MinInt, 4))
	expectPutIn(t, heap.New[int](nil), 5)
	expectPutIn(t, heap.Words(), "a")
}

func TestDrain(t *testing.T) { // P7.4
	h := heap.Items(item(3, 1), item(1, 2), item(3, 3), item(1, 4))
	expectDrained(t, h, item(1, 2), item(1, 4), item(3, 1), item(3, 3))
	expectDrained(t, h)
	h.Push(item(3, 5))
	h.Push(item(1, 6), item(3, 7))
	expectPop(t, h, item(1, 6))
	expectDrained(t, h, item(3, 5), item(3, 7))
	expectPutIn(t, h, item(2, 8))
	expectDrained(t, h, item(2, 8))
	expectDrained(t, heap.Items(item(2, 9)), item(2, 9))
	expectDrained(t, heap.Items())
}

func TestAlikeItemsOfNewPushAndReplace(t *testing.T) { // P7.1 to P7.4
	h := heap.Items(item(0, 1), item(5, 2), item(5, 3))
	h.Push(item(5, 4), item(1, 5))
	expectReplaced(t, h, item(5, 6), item(0, 1))
	h.Push(item(5, 7))
	expectReplaced(t, h, item(5, 8), item(1, 5))
	h.Push(item(6, 9), item(5, 10))
	expectPop(t, h, item(5, 2))
	expectReplaced(t, h, item(4, 11), item(5, 3))
	h.Push(item(5, 12))
	expectReplaced(t, h, item(5, 13), item(4, 11))
	expectDrained(t, h, item(5, 4), item(5, 6), item(5, 7), item(5, 8), item(5, 10), item(5, 12), item(5, 13), item(6, 9))
}

func TestAllOrdersOfPutting(t *testing.T) { // P7.1, P7.4: all lists of up to seven keys of three
	for n := range 8 {
		lists := 1
		for range n {
			lists *= 3
		}
		for number := range lists {
			var keys []int
			for left := number; len(keys) < n; left /= 3 {
				keys = append(keys, left%3)
			}
			items := tagged(0, keys...)
			want := slices.Clone(items)
			slices.SortStableFunc(want, func(a, b heap.Item) int { return a.Key - b.Key })
			expectDrained(t, heap.Items(items...), want...)
			h := heap.Items(items[:n/2]...)
			for _, x := range items[n/2:] {
				h.Push(x)
			}
			expectDrained(t, h, want...)
			if t.Failed() {
				t.Fatalf("keys %v", keys)
			}
		}
	}
}

func TestLess(t *testing.T) { // P7.5
	keys := []int{math.MinInt, math.MinInt + 1, math.MinInt / 2, -2, -1, 0, 1, 2, math.MaxInt / 2, math.MaxInt - 1, math.MaxInt}
	for i, a := range keys {
		for j, b := range keys {
			for _, tag := range keys {
				if got := item(a, tag).Less(item(b, -tag)); got != (i < j) {
					t.Errorf("{%d, %d}.Less({%d, %d}) = %v", a, tag, b, -tag, got)
				}
			}
		}
	}
}

func TestItemsOfAllKeys(t *testing.T) { // P7.5
	h := heap.Items(tagged(1, math.MaxInt, 0, -1, math.MinInt, 1, math.MinInt, math.MaxInt, math.MinInt+1)...)
	expectDrained(t, h, item(math.MinInt, 4), item(math.MinInt, 6), item(math.MinInt+1, 8), item(-1, 3), item(0, 2),
		item(1, 5), item(math.MaxInt, 1), item(math.MaxInt, 7))
	tags := heap.Items(item(1, math.MaxInt), item(1, math.MinInt), item(1, 0), item(1, math.MaxInt))
	expectDrained(t, tags, item(1, math.MaxInt), item(1, math.MinInt), item(1, 0), item(1, math.MaxInt))
}

func TestWords(t *testing.T) { // P7.5
	h := heap.Words("b", "", "ab")
	h.Push("a", "b")
	expectPop(t, h, "", "a", "ab", "b", "b")
	expectNone(t, h)
	rising := []string{"", "", "\x00", "\x00\x00", "A", "Z", "Zz", "a", "a\x00", "a\x00b", "aa", "ab", "ab", "b",
		"\x7f", "\x7f\xff", "\x80", "\xc3\xa4", "\xe4", "\xff", "\xff\x00", "\xff\xff"}
	for turn := range rising {
		list := append(slices.Clone(rising[turn:]), rising[:turn]...)
		expectDrained(t, heap.Words(list...), rising...)
		slices.Reverse(list)
		expectDrained(t, heap.Words(list...), rising...)
	}
	long := strings.Repeat("ab", 99999)
	expectDrained(t, heap.Words(long+"b", long, "b", long+"a"), long, long+"a", long+"b", "b")
}

func TestOfANilHeap(t *testing.T) { // P7.6
	expectNilHeap(t, 7)
	expectNilHeap(t, "a")
	expectNilHeap(t, item(1, 2))
	expectNilHeap(t, [3]bool{true})
}

func expectNilHeap[T comparable](t *testing.T, x T) {
	t.Helper()
	var h *heap.Heap[T]
	var zero T
	expectNone(t, h)
	h.Push()
	h.Push(x)
	h.Push(x, x)
	expectNone(t, h)
	for range 2 {
		if got, ok := h.Replace(x); got != zero || ok {
			t.Errorf("Replace(%v) = %v, %v of a nil heap", x, got, ok)
		}
		expectNone(t, h)
	}
}
