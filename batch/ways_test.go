package batch_test

import (
	"go/ast"
	"go/parser"
	"go/token"
	"testing"

	"hornbook/api"
	"hornbook/batch"
	"hornbook/runs"
)

// What the document's section 'Ways' says of layer 9.

// TestADeferredFunctionLiteralDropsTheWriterAndTheRuns: one, whatever refuses the batch.
func TestADeferredFunctionLiteralDropsTheWriterAndTheRuns(t *testing.T) {
	for _, name := range []string{"Add", "Finish"} {
		if !reaches(t, function(t, name), func(n ast.Node) bool {
			late, ok := n.(*ast.DeferStmt)
			if !ok {
				return false
			}
			literal, ok := late.Call.Fun.(*ast.FuncLit)
			return ok && reaches(t, literal, calls("Drop")) && reaches(t, literal, calls("Remove"))
		}) {
			t.Errorf("%s defers no function literal that drops the writer and removes the runs", name)
		}
	}
	deferred := 0
	ast.Inspect(parse(t), func(n ast.Node) bool {
		if _, ok := n.(*ast.DeferStmt); ok {
			deferred++
		}
		return true
	})
	if deferred != 1 {
		t.Errorf("%d functions are deferred; one is enough for all refusals", deferred)
	}
}

func TestTheBufferIsCleared(t *testing.T) {
	for _, name := range []string{"Add", "Finish"} {
		if !reaches(t, function(t, name), func(n ast.Node) bool {
			call, ok := n.(*ast.CallExpr)
			return ok && isName(call.Fun, "clear") && isField(call.Args[0], "buffer")
		}) {
			t.Errorf("%s does not clear the buffer", name)
		}
	}
}

func TestTheBufferIsUsedAgain(t *testing.T) {
	s := runs.New(api.MaxStore)
	f := former(t, s, 100)
	add(t, f, numbered(100)...)
	memory := batch.Memory(f)
	if len(memory) < 100 {
		t.Fatalf("the buffer has room for %d words", len(memory))
	}
	for round := range 20 {
		for n, w := range batch.Memory(f) {
			if w != "" {
				t.Errorf("round %d: %q lies at place %d of the empty buffer", round, w, n)
			}
		}
		add(t, f, numbered(100)...)
		if again := batch.Memory(f); &again[0] != &memory[0] || len(again) != len(memory) {
			t.Fatalf("round %d: the buffer is other memory", round)
		}
	}
}

func TestTheBufferIsNoGreaterThanTheBatch(t *testing.T) { // the chapter's first words: of fixed size
	s := runs.New(api.MaxStore)
	f := former(t, s, 100)
	add(t, f, numbered(100000)...)
	if n := len(batch.Memory(f)); n > 200 {
		t.Errorf("a buffer of 100 words has room for %d", n)
	}
	// And no greater than what came in.
	f = former(t, s, api.MaxBuffer)
	add(t, f, "a")
	if n := len(batch.Memory(f)); n > 200 {
		t.Errorf("a buffer with one word has room for %d", n)
	}
}

func TestAFormerThatEndsKeepsNoBuffer(t *testing.T) {
	ends := map[string]func(s *runs.Store, f *batch.Former){
		"Finish": func(s *runs.Store, f *batch.Former) { f.Finish() },
		"Drop":   func(s *runs.Store, f *batch.Former) { f.Drop() },
		"death":  func(s *runs.Store, f *batch.Former) { s.Break(1); f.Finish() },
	}
	for name, end := range ends {
		s := runs.New(1000)
		f := former(t, s, 4)
		add(t, f, "a", "b", "c", "d", "e")
		end(s, f)
		if n := len(batch.Memory(f)); n != 0 {
			t.Errorf("%s: a buffer with room for %d words is kept", name, n)
		}
	}
}

func calls(name string) func(ast.Node) bool {
	return func(n ast.Node) bool {
		call, ok := n.(*ast.CallExpr)
		return ok && isField(call.Fun, name)
	}
}

func isField(e ast.Expr, field string) bool {
	pick, ok := e.(*ast.SelectorExpr)
	return ok && pick.Sel.Name == field
}

func isName(e ast.Expr, name string) bool {
	id, ok := e.(*ast.Ident)
	return ok && id.Name == name
}

// reaches: is there such a thing in that piece of code, or in the package's own unexported functions that it names?
func reaches(t *testing.T, from ast.Node, is func(ast.Node) bool) bool {
	t.Helper()
	seen := map[string]bool{}
	found := false
	var look func(n ast.Node)
	look = func(n ast.Node) {
		ast.Inspect(n, func(n ast.Node) bool {
			if n == nil {
				return true
			}
			found = found || is(n)
			if id, ok := n.(*ast.Ident); ok && !id.IsExported() && !seen[id.Name] {
				seen[id.Name] = true
				if f := find(t, id.Name); f != nil {
					look(f.Body)
				}
			}
			return true
		})
	}
	look(from)
	return found
}

func function(t *testing.T, name string) *ast.FuncDecl {
	t.Helper()
	f := find(t, name)
	if f == nil {
		t.Fatalf("there is no %s", name)
	}
	return f
}

func find(t *testing.T, name string) *ast.FuncDecl {
	t.Helper()
	for _, d := range parse(t).Decls {
		if f, ok := d.(*ast.FuncDecl); ok && f.Name.Name == name {
			return f
		}
	}
	return nil
}

func parse(t *testing.T) *ast.File {
	t.Helper()
	file, err := parser.ParseFile(token.NewFileSet(), "batch.go", nil, 0)
	if err != nil {
		t.Fatal(err)
	}
	return file
}
