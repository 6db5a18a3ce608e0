package merge_test

import (
	"go/ast"
	"go/parser"
	"go/token"
	"testing"
)

// What the document's section 'Ways' says of layer 10.

// TestTheWritersPutIsHandedOnAsAMethodValue: to a function of the package, which calls what it is handed.
func TestTheWritersPutIsHandedOnAsAMethodValue(t *testing.T) {
	for _, name := range []string{"Merge", "Sort"} {
		if !reaches(t, name, func(n ast.Node) bool {
			call, ok := n.(*ast.CallExpr)
			if !ok {
				return false
			}
			for _, argument := range call.Args {
				if isField(argument, "Put") {
					return callsItsFunction(functions(t)[nameOf(call.Fun)])
				}
			}
			return false
		}) {
			t.Errorf("%s hands no Put on", name)
		}
		if reaches(t, name, func(n ast.Node) bool {
			call, ok := n.(*ast.CallExpr)
			return ok && isField(call.Fun, "Put")
		}) {
			t.Errorf("%s calls a Put by itself", name)
		}
	}
}

// callsItsFunction: has it a parameter that is a function, and does it call it?
func callsItsFunction(f *ast.FuncDecl) bool {
	if f == nil {
		return false
	}
	for _, p := range f.Type.Params.List {
		if _, ok := p.Type.(*ast.FuncType); !ok {
			continue
		}
		called := false
		ast.Inspect(f.Body, func(n ast.Node) bool {
			call, ok := n.(*ast.CallExpr)
			called = called || ok && nameOf(call.Fun) == p.Names[0].Name
			return true
		})
		return called
	}
	return false
}

// TestListsOfRunsComeInThroughVariadicParameters: no function of the package takes numbers as a list.
func TestListsOfRunsComeInThroughVariadicParameters(t *testing.T) {
	variadic := 0
	for name, f := range functions(t) {
		for _, p := range f.Type.Params.List {
			switch x := p.Type.(type) {
			case *ast.ArrayType:
				t.Errorf("%s takes a list that is not variadic", name)
			case *ast.Ellipsis:
				if nameOf(x.Elt) == "int" {
					variadic++
				}
			}
		}
	}
	if variadic < 2 {
		t.Errorf("%d functions take runs through variadic parameters", variadic)
	}
}

func isField(e ast.Expr, field string) bool {
	pick, ok := e.(*ast.SelectorExpr)
	return ok && pick.Sel.Name == field
}

// nameOf: the name that e is, if it is one.
func nameOf(e ast.Expr) string {
	if id, ok := e.(*ast.Ident); ok {
		return id.Name
	}
	return ""
}

// reaches: is there such a thing in that function, or in those of the package that it names?
func reaches(t *testing.T, name string, is func(ast.Node) bool) bool {
	t.Helper()
	all := functions(t)
	seen := map[string]bool{}
	found := false
	var look func(name string)
	look = func(name string) {
		f := all[name]
		if f == nil || seen[name] {
			return
		}
		seen[name] = true
		ast.Inspect(f.Body, func(n ast.Node) bool {
			if n == nil {
				return true
			}
			found = found || is(n)
			if id, ok := n.(*ast.Ident); ok {
				look(id.Name)
			}
			return true
		})
	}
	if all[name] == nil {
		t.Fatalf("there is no %s", name)
	}
	look(name)
	return found
}

func functions(t *testing.T) map[string]*ast.FuncDecl {
	t.Helper()
	file, err := parser.ParseFile(token.NewFileSet(), "merge.go", nil, 0)
	if err != nil {
		t.Fatal(err)
	}
	all := map[string]*ast.FuncDecl{}
	for _, d := range file.Decls {
		if f, ok := d.(*ast.FuncDecl); ok {
			all[f.Name.Name] = f
		}
	}
	return all
}
