package cond

import "strings"

// item is a set of bytes: a bit a byte.
type item [4]uint64

// only: the item that admits the bytes of the list alone.
func only(list string) item {
	var t item
	for i := 0; i < len(list); i++ {
		b := list[i]
		t[b/64] |= 1 << (b % 64)
	}
	return t
}

// others: the item that admits just what t doesn't.
func (t item) others() item {
	for i := range t {
		t[i] = ^t[i]
	}
	return t
}

func (t item) has(b byte) bool {
	return t[b/64]>>(b%64)&1 == 1
}

// list: the bytes that it admits, rising.
func (t item) list() string {
	var bytes []byte
	for b := range 256 {
		if t.has(byte(b)) {
			bytes = append(bytes, byte(b))
		}
	}
	return string(bytes)
}

// show: the one text of the item.
func (t item) show() string {
	list := t.list()
	switch {
	case len(list) == 256:
		return "."
	case list == "." || list == "[":
		return "[" + list + "]"
	case len(list) == 1:
		return list
	case t.has(']'):
		return "[^" + t.others().list() + "]"
	}
	// At the beginning of the list ^ would turn it, so it goes to the end.
	below, above, found := strings.Cut(list, "^")
	if found {
		return "[" + below + above + "^]"
	}
	return "[" + list + "]"
}
