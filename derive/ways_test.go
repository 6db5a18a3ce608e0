package derive_test

import (
	"go/ast"
	"go/parser"
	"go/token"
	"iter"
	"path/filepath"
	"slices"
	"strings"
	"testing"

	"hornbook/api"
	"hornbook/derive"
)

// What the document's section 'Ways' says of layer 16.

// TestEachAndAllAnswerAClosure: and nothing is done ahead of it.
func TestEachAndAllAnswerAClosure(t *testing.T) {
	for _, name := range []string{"Each", "All"} {
		body := function(t, name).Body.List
		if len(body) != 1 {
			t.Fatalf("%s does more than to answer", name)
		}
		answer, ok := body[0].(*ast.ReturnStmt)
		if !ok || len(answer.Results) != 1 {
			t.Fatalf("%s does not answer at once", name)
		}
		if _, ok := answer.Results[0].(*ast.FuncLit); !ok {
			t.Errorf("%s answers no closure", name)
		}
	}
}

// TestTheTakerIsKeptInAField: of the type of which Each and All make one in their closures.
func TestTheTakerIsKeptInAField(t *testing.T) {
	typeName, field := taker(t)
	if typeName == "" {
		t.Fatalf("no type keeps a function that takes a derivation")
	}
	for _, name := range []string{"Each", "All"} {
		made := false
		ast.Inspect(function(t, name), func(n ast.Node) bool {
			if c, ok := n.(*ast.CompositeLit); ok && isName(c.Type, typeName) {
				made = true
			}
			return true
		})
		if !made {
			t.Errorf("%s makes no %s", name, typeName)
		}
	}
	if !isCalled(t, field) {
		t.Errorf("the function in the field %s is not called", field)
	}
}

// taker: the type, and its field that holds a function which takes a derivation and tells whether it wants more.
func taker(t *testing.T) (typeName, field string) {
	t.Helper()
	for _, file := range parse(t) {
		ast.Inspect(file, func(n ast.Node) bool {
			y, ok := n.(*ast.TypeSpec)
			if !ok {
				return true
			}
			fields, ok := y.Type.(*ast.StructType)
			if !ok {
				return true
			}
			for _, f := range fields.Fields.List {
				if isTaker(f.Type) && len(f.Names) == 1 {
					typeName, field = y.Name.Name, f.Names[0].Name
				}
			}
			return true
		})
	}
	return typeName, field
}

// isTaker: func(api.Derived) bool
func isTaker(e ast.Expr) bool {
	f, ok := e.(*ast.FuncType)
	if !ok || len(f.Params.List) != 1 || f.Results == nil || len(f.Results.List) != 1 {
		return false
	}
	takes, ok := f.Params.List[0].Type.(*ast.SelectorExpr)
	return ok && isName(takes.X, "api") && takes.Sel.Name == "Derived" && isName(f.Results.List[0].Type, "bool")
}

func isCalled(t *testing.T, field string) bool {
	t.Helper()
	called := false
	for _, file := range parse(t) {
		ast.Inspect(file, func(n ast.Node) bool {
			if call, ok := n.(*ast.CallExpr); ok {
				pick, ok := call.Fun.(*ast.SelectorExpr)
				called = called || ok && pick.Sel.Name == field
			}
			return true
		})
	}
	return called
}

// TestTheEnumeratorIsLazy: behind each derivation it waits; between two of them few steps are taken, and behind the last one asked for none.
func TestTheEnumeratorIsLazy(t *testing.T) {
	u := endless(t)
	for name, each := range map[string]iter.Seq[api.Derived]{"Each": derive.Each(u, 4998), "All": derive.All(u)} {
		next, stop := iter.Pull(each)
		for count := range 2000 {
			steps := testing.AllocsPerRun(1, func() {
				if _, more := next(); !more {
					t.Errorf("%s ends at %d", name, count)
				}
			})
			if steps > 100 {
				t.Errorf("%s takes %g pieces of memory for the derivation %d", name, steps, count)
			}
		}
		stop()
	}
}

// TestTheOtherCallsRangeOverTheIterators: none of them goes over derivations in a way of its own.
func TestTheOtherCallsRangeOverTheIterators(t *testing.T) {
	for name, over := range map[string]string{"List": "Each", "Measure": "All", "Feed": "Each"} {
		ranged := false
		ast.Inspect(function(t, name), func(n ast.Node) bool {
			if loop, ok := n.(*ast.RangeStmt); ok {
				call, ok := loop.X.(*ast.CallExpr)
				ranged = ranged || ok && isName(call.Fun, over)
			}
			return true
		})
		if !ranged {
			t.Errorf("%s does not range over %s", name, over)
		}
	}
}

func isName(e ast.Expr, name string) bool {
	id, ok := e.(*ast.Ident)
	return ok && id.Name == name
}

// function: the package's own of that name.
func function(t *testing.T, name string) *ast.FuncDecl {
	t.Helper()
	for _, file := range parse(t) {
		at := slices.IndexFunc(file.Decls, func(d ast.Decl) bool {
			f, ok := d.(*ast.FuncDecl)
			return ok && f.Recv == nil && f.Name.Name == name
		})
		if at >= 0 {
			return file.Decls[at].(*ast.FuncDecl)
		}
	}
	t.Fatalf("there is no %s", name)
	return nil
}

// parse: the package's files, but for tests.
func parse(t *testing.T) []*ast.File {
	t.Helper()
	paths, err := filepath.Glob("*.go")
	if err != nil {
		t.Fatal(err)
	}
	var files []*ast.File
	for _, path := range paths {
		if strings.HasSuffix(path, "_test.go") {
			continue
		}
		file, err := parser.ParseFile(token.NewFileSet(), path, nil, 0)
		if err != nil {
			t.Fatal(err)
		}
		files = append(files, file)
	}
	return files
}
