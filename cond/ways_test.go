package cond_test

import (
	"go/ast"
	"go/parser"
	"go/token"
	"testing"
)

// What the document's section 'Ways' says of layer 4.

func TestAnItemIsAnArrayOfFourNumbers(t *testing.T) {
	// A bit a byte: four numbers of 64 bits are the 256 bytes.
	item, ok := typeOf(t, "item.go", "item").(*ast.ArrayType)
	if !ok || !isLiteral(item.Len, "4") || !isName(item.Elt, "uint64") {
		t.Errorf("item is no array of four numbers of 64 bits")
	}
}

func TestPatternsAreEqualIfTheirArraysAre(t *testing.T) {
	arrays := map[string]bool{}
	for _, field := range typeOf(t, "cond.go", "Pattern").(*ast.StructType).Fields.List {
		if a, ok := field.Type.(*ast.ArrayType); ok && a.Len != nil && isName(a.Elt, "item") {
			arrays[field.Names[0].Name] = true
		}
	}
	found := false
	for _, d := range parse(t, "cond.go").Decls {
		f, ok := d.(*ast.FuncDecl)
		if !ok || f.Name.Name != "Equal" {
			continue
		}
		ast.Inspect(f.Body, func(n ast.Node) bool {
			c, ok := n.(*ast.BinaryExpr)
			found = found || ok && c.Op == token.EQL && arrays[picked(c.X, "p")] && arrays[picked(c.Y, "q")]
			return true
		})
	}
	if !found {
		t.Errorf("Equal does not compare the arrays of both")
	}
}

// picked: the field that e takes of that name; empty, if it takes none.
func picked(e ast.Expr, of string) string {
	pick, ok := e.(*ast.SelectorExpr)
	if !ok || !isName(pick.X, of) {
		return ""
	}
	return pick.Sel.Name
}

func isName(e ast.Expr, name string) bool {
	id, ok := e.(*ast.Ident)
	return ok && id.Name == name
}

func isLiteral(e ast.Expr, value string) bool {
	l, ok := e.(*ast.BasicLit)
	return ok && l.Value == value
}

// typeOf: what a file declares the type of that name to be.
func typeOf(t *testing.T, path, name string) ast.Expr {
	t.Helper()
	for _, d := range parse(t, path).Decls {
		group, ok := d.(*ast.GenDecl)
		if !ok {
			continue
		}
		for _, s := range group.Specs {
			if y, ok := s.(*ast.TypeSpec); ok && y.Name.Name == name {
				return y.Type
			}
		}
	}
	t.Fatalf("%s has no type %s", path, name)
	return nil
}

func parse(t *testing.T, path string) *ast.File {
	t.Helper()
	file, err := parser.ParseFile(token.NewFileSet(), path, nil, 0)
	if err != nil {
		t.Fatal(err)
	}
	return file
}
