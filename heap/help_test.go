package heap_test

import (
	"fmt"
	"slices"
	"testing"

	"hornbook/heap"
)

// item: the keys are held against each other, the tags tell which one it is.
func item(key, tag int) heap.Item { return heap.Item{Key: key, Tag: tag} }

// tagged: items of these keys, with the tags first, first+1 and so on.
func tagged(first int, keys ...int) []heap.Item {
	var items []heap.Item
	for i, key := range keys {
		items = append(items, item(key, first+i))
	}
	return items
}

// show: a value as Go writes it, a long one cut.
func show(x any) string { return fmt.Sprintf("%.300s", fmt.Sprintf("%#v", x)) }

func expectLen[T any](t *testing.T, h *heap.Heap[T], want int) {
	t.Helper()
	if got := h.Len(); got != want {
		t.Errorf("Len() = %d; want %d", got, want)
	}
}

func expectPeek[T comparable](t *testing.T, h *heap.Heap[T], want T) {
	t.Helper()
	before := h.Len()
	if got, ok := h.Peek(); got != want || !ok {
		t.Errorf("Peek() = %s, %v; want %s", show(got), ok, show(want))
	}
	expectLen(t, h, before)
}

// expectPop: these come out, one by one.
func expectPop[T comparable](t *testing.T, h *heap.Heap[T], want ...T) {
	t.Helper()
	for _, w := range want {
		before := h.Len()
		if got, ok := h.Pop(); got != w || !ok {
			t.Errorf("Pop() = %s, %v; want %s", show(got), ok, show(w))
		}
		expectLen(t, h, before-1)
	}
}

func expectReplaced[T comparable](t *testing.T, h *heap.Heap[T], by, want T) {
	t.Helper()
	before := h.Len()
	if got, ok := h.Replace(by); got != want || !ok {
		t.Errorf("Replace(%s) = %s, %v; want %s", show(by), show(got), ok, show(want))
	}
	expectLen(t, h, before)
}

func expectDrained[T comparable](t *testing.T, h *heap.Heap[T], want ...T) {
	t.Helper()
	if got := h.Drain(); !slices.Equal(got, want) {
		t.Errorf("Drain() = %s; want %s", show(got), show(want))
	}
	expectNone(t, h)
}

// expectNone: the heap has no items.
func expectNone[T comparable](t *testing.T, h *heap.Heap[T]) {
	t.Helper()
	var zero T
	expectLen(t, h, 0)
	if got, ok := h.Peek(); got != zero || ok {
		t.Errorf("Peek() = %s, %v of no items", show(got), ok)
	}
	if got, ok := h.Pop(); got != zero || ok {
		t.Errorf("Pop() = %s, %v of no items", show(got), ok)
	}
	if got := h.Drain(); len(got) != 0 {
		t.Errorf("Drain() = %s of no items", show(got))
	}
	expectLen(t, h, 0)
}

// expectPutIn: Replace of a heap without items puts in and answers nothing.
func expectPutIn[T comparable](t *testing.T, h *heap.Heap[T], by T) {
	t.Helper()
	var zero T
	if got, ok := h.Replace(by); got != zero || ok {
		t.Errorf("Replace(%s) = %s, %v of no items", show(by), show(got), ok)
	}
	expectLen(t, h, 1)
	expectPeek(t, h, by)
}

// randoms: numbers that look like chance and are the same each time.
func randoms(seed int) func(below int) int {
	state := uint64(seed) + 1
	return func(below int) int {
		state = state*6364136223846793005 + 1442695040888963407
		return int(state >> 33 % uint64(below))
	}
}
