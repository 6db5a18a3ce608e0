package heap_test

import (
	"go/ast"
	"go/parser"
	"go/token"
	"math/bits"
	"runtime"
	"strings"
	"testing"
	"weak"

	"hornbook/heap"
)

// What the document's section 'Ways' says of layer 7.

func TestTheHeapIsItsOwn(t *testing.T) {
	for _, spec := range parse(t).Imports {
		if strings.HasPrefix(spec.Path.Value, `"container/`) {
			t.Errorf("the heap takes %s", spec.Path.Value)
		}
	}
}

func TestAGenericTypeAndAGenericFunctionThatMakesIt(t *testing.T) {
	generic := false
	ast.Inspect(parse(t), func(n ast.Node) bool {
		y, ok := n.(*ast.TypeSpec)
		generic = generic || ok && y.Name.Name == "Heap" && y.TypeParams != nil
		return true
	})
	if !generic {
		t.Errorf("the type Heap is not generic")
	}
	if function(t, "New").Type.TypeParams == nil {
		t.Errorf("New is not generic")
	}
}

func TestTheOrderOfItemsIsAMethodExpression(t *testing.T) {
	if !holds(function(t, "Items").Body, func(n ast.Node) bool {
		call, ok := n.(*ast.CallExpr)
		return ok && isName(call.Fun, "New") && len(call.Args) > 0 && isPick(call.Args[0], "Item", "Less")
	}) {
		t.Errorf("Items does not make its heap by Item.Less")
	}
}

func TestPopClearsThePlaceThatFallsFree(t *testing.T) {
	if !holds(function(t, "Pop").Body, func(n ast.Node) bool {
		call, ok := n.(*ast.CallExpr)
		return ok && isName(call.Fun, "clear")
	}) {
		t.Errorf("Pop does not clear")
	}
}

// big is an item behind a pointer: a heap that holds on to it keeps it alive.
type big struct {
	key  int
	body [64]int
}

func TestWhatWasTakenOutIsNotHeldOnTo(t *testing.T) {
	take := map[string]func(h *heap.Heap[*big]){
		"Pop": func(h *heap.Heap[*big]) {
			for range h.Len() {
				h.Pop()
			}
		},
		"Drain": func(h *heap.Heap[*big]) { h.Drain() },
		"Replace": func(h *heap.Heap[*big]) {
			for n := range h.Len() {
				h.Replace(&big{key: 100 + n})
			}
		},
	}
	for name, out := range take {
		h := heap.New(func(a, b *big) bool { return a.key < b.key })
		held := fill(h, 20)
		runtime.GC()
		for n, p := range held {
			if p.Value() == nil {
				t.Errorf("%s: item %d is gone while it is in", name, n)
			}
		}
		out(h)
		runtime.GC()
		for n, p := range held {
			if p.Value() != nil {
				t.Errorf("%s: item %d is held on to", name, n)
			}
		}
		runtime.KeepAlive(h)
	}
}

// fill puts in n items and answers pointers that don't keep them alive.
func fill(h *heap.Heap[*big], n int) []weak.Pointer[big] {
	var held []weak.Pointer[big]
	for i := range n {
		x := &big{key: i * 7 % n}
		held = append(held, weak.Make(x))
		h.Push(x)
	}
	return held
}

func TestTheItemsStandInAHeap(t *testing.T) {
	asked := 0
	h := heap.New(func(a, b int) bool { asked++; return a < b })
	// Of n items each way from the top to the bottom has at most as many steps as n has bits.
	expect := func(what string, most int) {
		t.Helper()
		if asked > most {
			t.Errorf("%s of %d items asks less %d times", what, h.Len(), asked)
		}
		asked = 0
	}
	for n := range 3000 {
		h.Push(3000 - n)
		expect("Push", bits.Len(uint(n)))
		h.Peek()
		expect("Peek", 0)
	}
	for n := range 1000 {
		h.Replace(5000 + n)
		expect("Replace", 2*bits.Len(uint(h.Len())))
	}
	for h.Len() > 0 {
		h.Pop()
		expect("Pop", 2*bits.Len(uint(h.Len())))
	}
}

func isName(e ast.Expr, name string) bool {
	id, ok := e.(*ast.Ident)
	return ok && id.Name == name
}

func isPick(e ast.Expr, of, name string) bool {
	pick, ok := e.(*ast.SelectorExpr)
	return ok && isName(pick.X, of) && pick.Sel.Name == name
}

func holds(n ast.Node, is func(ast.Node) bool) bool {
	found := false
	ast.Inspect(n, func(n ast.Node) bool {
		found = found || is(n)
		return !found
	})
	return found
}

func function(t *testing.T, name string) *ast.FuncDecl {
	t.Helper()
	for _, d := range parse(t).Decls {
		if f, ok := d.(*ast.FuncDecl); ok && f.Name.Name == name {
			return f
		}
	}
	t.Fatalf("there is no %s", name)
	return nil
}

func parse(t *testing.T) *ast.File {
	t.Helper()
	file, err := parser.ParseFile(token.NewFileSet(), "heap.go", nil, 0)
	if err != nil {
		t.Fatal(err)
	}
	return file
}
