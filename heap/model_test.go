package heap_test

import (
	"slices"
	"testing"

	"hornbook/heap"
)

// Here lists of calls are held against a plain second writing of the chapter's
// words, which keeps the items in the order of their coming and looks at all.

type model struct {
	items []heap.Item
	keyed bool // or else all items are alike
}

func (m *model) isAhead(a, b heap.Item) bool { return m.keyed && a.Key < b.Key }

// least: the place of the item that comes ahead of all others; below 0, if there is none.
func (m *model) least() int {
	for i, a := range m.items {
		first := true
		for j, b := range m.items {
			first = first && !m.isAhead(b, a) && (j >= i || m.isAhead(a, b))
		}
		if first {
			return i
		}
	}
	return -1
}

func (m *model) peek() (heap.Item, bool) {
	if i := m.least(); i >= 0 {
		return m.items[i], true
	}
	return heap.Item{}, false
}

func (m *model) pop() (heap.Item, bool) {
	least, ok := m.peek()
	if ok {
		i := m.least()
		m.items = slices.Delete(m.items, i, i+1)
	}
	return least, ok
}

func (m *model) replace(x heap.Item) (heap.Item, bool) {
	least, ok := m.pop()
	m.items = append(m.items, x)
	return least, ok
}

func (m *model) drain() []heap.Item {
	var items []heap.Item
	for len(m.items) > 0 {
		x, _ := m.pop()
		items = append(items, x)
	}
	return items
}

// both is a heap and its model, to which the same is done.
type both struct {
	h    *heap.Heap[heap.Item]
	m    *model
	tags int
}

// start: a heap by keys, or one of alike items.
func start(keyed bool, keys ...int) *both {
	b := &both{m: &model{keyed: keyed}}
	items := b.next(keys)
	b.m.items = slices.Clone(items)
	if keyed {
		b.h = heap.Items(items...)
	} else {
		b.h = heap.New(nil, items...)
	}
	return b
}

// next: items of these keys, each with a tag of its own.
func (b *both) next(keys []int) []heap.Item {
	items := tagged(b.tags, keys...)
	b.tags += len(keys)
	return items
}

// call is one of a heap's calls.
type call struct {
	what string
	keys []int
}

func (b *both) do(t *testing.T, c call) {
	t.Helper()
	items := b.next(c.keys)
	var got, want heap.Item
	var ok, is bool
	switch c.what {
	case "Push":
		b.h.Push(items...)
		b.m.items = append(b.m.items, items...)
	case "Pop":
		got, ok = b.h.Pop()
		want, is = b.m.pop()
	case "Peek":
		got, ok = b.h.Peek()
		want, is = b.m.peek()
	case "Replace":
		got, ok = b.h.Replace(items[0])
		want, is = b.m.replace(items[0])
	case "Drain":
		if got, want := b.h.Drain(), b.m.drain(); !slices.Equal(got, want) {
			t.Errorf("Drain() = %v; want %v", got, want)
		}
	}
	if got != want || ok != is {
		t.Errorf("%s(%v) = %v, %v; want %v, %v", c.what, items, got, ok, want, is)
	}
	expectLen(t, b.h, len(b.m.items))
}

func TestShortListsOfCallsAgainstTheModel(t *testing.T) { // P7.1 to P7.4
	all := []call{
		{"Push", nil}, {"Push", []int{0}}, {"Push", []int{1}}, {"Push", []int{1, 0, 1}},
		{"Pop", nil}, {"Peek", nil}, {"Drain", nil},
		{"Replace", []int{0}}, {"Replace", []int{1}},
	}
	for number := range 9 * 9 * 9 * 9 * 9 {
		for _, keyed := range []bool{true, false} {
			for _, keys := range [][]int{nil, {1, 1}, {1, 2, 0, 1, 0}} {
				b := start(keyed, keys...)
				for left, i := number, 0; i < 5; i++ {
					b.do(t, all[left%9])
					left /= 9
				}
				b.do(t, call{"Drain", nil})
				if t.Failed() {
					t.Fatalf("list %d, keyed %v, keys %v", number, keyed, keys)
				}
			}
		}
	}
}

func TestLongListsOfCallsAgainstTheModel(t *testing.T) { // P7.1 to P7.4
	for seed := range 40 {
		next := randoms(seed)
		span := []int{1, 2, 5, 30, 1000}[seed%5]
		b := start(seed%8 != 7)
		for range 400 {
			keys := make([]int, next(5))
			for i := range keys {
				keys[i] = next(span) - span/2
			}
			switch next(9) {
			case 0, 1, 2:
				b.do(t, call{"Push", keys})
			case 3, 4, 5:
				b.do(t, call{"Pop", nil})
			case 6:
				b.do(t, call{"Peek", nil})
			default:
				b.do(t, call{"Replace", []int{next(span)}})
			}
			if next(150) == 0 {
				b.do(t, call{"Drain", nil})
			}
		}
		b.do(t, call{"Drain", nil})
		if t.Failed() {
			t.Fatalf("list %d", seed)
		}
	}
}

func TestManyItemsAgainstAStableSort(t *testing.T) { // P7.1, P7.4
	for seed, n := range []int{1000, 4095, 4096, 4097, 50000} {
		next := randoms(seed)
		keys := make([]int, n)
		for i := range keys {
			keys[i] = next(n / 10)
		}
		items := tagged(0, keys...)
		h := heap.Items(items[:n/3]...)
		h.Push(items[n/3:]...)
		expectLen(t, h, n)
		want := slices.Clone(items)
		slices.SortStableFunc(want, func(a, b heap.Item) int { return a.Key - b.Key })
		if !slices.Equal(h.Drain(), want) {
			t.Errorf("%d items come out in another order", n)
		}
		expectNone(t, h)
	}
}
