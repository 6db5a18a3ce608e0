package streams

import (
	"slices"

	"hornbook/heap"
)

// Union: what one of them gives.
func Union(ss ...Stream) Stream {
	parts := slices.Clone(ss)
	return Stream{each: func(yield func(string) bool) {
		cursors := beginAll(parts)
		for cursors.Len() > 0 {
			if !yield(takeLeast(cursors)) {
				return
			}
		}
	}}
}

// beginAll: a heap of a cursor for each part that gives something.
func beginAll(parts []Stream) *heap.Heap[cursor] {
	cursors := heap.New(cursor.isAhead)
	for _, part := range parts {
		if c := begin(part); len(c) > 0 {
			cursors.Push(c)
		}
	}
	return cursors
}

// takeLeast: the least text that is left, cut off from all cursors that have it, so that it comes once.
func takeLeast(cursors *heap.Heap[cursor]) string {
	c, some := cursors.Peek()
	least := c[0]
	for some && c[0] == least {
		// A cursor with nothing left has no place in the order.
		if len(c) > 1 {
			cursors.Replace(c[1:])
		} else {
			cursors.Pop()
		}
		c, some = cursors.Peek()
	}
	return least
}
