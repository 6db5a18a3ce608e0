package runs_test

import (
	"go/ast"
	"go/parser"
	"go/token"
	"testing"
)

// What the document's section 'Ways' says of layer 5.

func TestTheStoreKeepsItsRunsInAMap(t *testing.T) {
	keeper := keptMap(t)
	if !reaches(function(t, "Create").Body, func(n ast.Node) bool {
		set, ok := n.(*ast.AssignStmt)
		if !ok || len(set.Lhs) != 1 {
			return false
		}
		place, ok := set.Lhs[0].(*ast.IndexExpr)
		return ok && isField(place.X, keeper)
	}) {
		t.Errorf("Create puts no run into the map %s", keeper)
	}
}

func TestRemoveDeletesFromTheMap(t *testing.T) {
	keeper := keptMap(t)
	if !reaches(function(t, "Remove").Body, func(n ast.Node) bool {
		call, ok := n.(*ast.CallExpr)
		return ok && isName(call.Fun, "delete") && isField(call.Args[0], keeper)
	}) {
		t.Errorf("Remove deletes nothing from the map %s", keeper)
	}
}

func TestLiveRangesOverTheMapAndSorts(t *testing.T) {
	keeper := keptMap(t)
	live := function(t, "Live").Body
	ranged := token.NoPos
	sorted := token.NoPos
	ast.Inspect(live, func(n ast.Node) bool {
		switch x := n.(type) {
		case *ast.RangeStmt:
			if isField(x.X, keeper) {
				ranged = x.End()
			}
		case *ast.SelectorExpr:
			if isName(x.X, "slices") && x.Sel.Name == "Sort" {
				sorted = x.Pos()
			}
		}
		return true
	})
	if ranged == token.NoPos {
		t.Errorf("Live does not range over the map %s", keeper)
	}
	if sorted == token.NoPos || sorted < ranged {
		t.Errorf("Live does not sort behind that")
	}
}

// keptMap: the name of the store's field that is a map by numbers.
func keptMap(t *testing.T) string {
	t.Helper()
	for _, d := range parse(t).Decls {
		group, ok := d.(*ast.GenDecl)
		if !ok {
			continue
		}
		for _, s := range group.Specs {
			y, ok := s.(*ast.TypeSpec)
			if !ok || y.Name.Name != "Store" {
				continue
			}
			for _, field := range y.Type.(*ast.StructType).Fields.List {
				if m, ok := field.Type.(*ast.MapType); ok && isName(m.Key, "int") {
					return field.Names[0].Name
				}
			}
		}
	}
	t.Fatalf("the store has no map by numbers")
	return ""
}

func reaches(n ast.Node, is func(n ast.Node) bool) bool {
	found := false
	ast.Inspect(n, func(n ast.Node) bool {
		found = found || is(n)
		return true
	})
	return found
}

func isField(e ast.Expr, field string) bool {
	pick, ok := e.(*ast.SelectorExpr)
	return ok && isName(pick.X, "s") && pick.Sel.Name == field
}

func isName(e ast.Expr, name string) bool {
	id, ok := e.(*ast.Ident)
	return ok && id.Name == name
}

func function(t *testing.T, name string) *ast.FuncDecl {
	t.Helper()
	for _, d := range parse(t).Decls {
		if f, ok := d.(*ast.FuncDecl); ok && f.Name.Name == name {
			return f
		}
	}
	t.Fatalf("there is no %s", name)
	return nil
}

func parse(t *testing.T) *ast.File {
	t.Helper()
	file, err := parser.ParseFile(token.NewFileSet(), "runs.go", nil, 0)
	if err != nil {
		t.Fatal(err)
	}
	return file
}
