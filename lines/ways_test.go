package lines_test

import (
	"go/ast"
	"go/parser"
	"go/token"
	"slices"
	"testing"

	"hornbook/lines"
)

// What the document's section 'Ways' says of layer 1.

func TestEachIsAClosureOverTheText(t *testing.T) {
	each := functions(t)["Each"]
	if len(each.Body.List) != 1 {
		t.Fatalf("Each does more than answer a closure")
	}
	back, ok := each.Body.List[0].(*ast.ReturnStmt)
	if !ok || len(back.Results) != 1 {
		t.Fatalf("Each answers no closure")
	}
	closure, ok := back.Results[0].(*ast.FuncLit)
	if !ok || !names(closure.Body, each.Type.Params.List[0].Names[0].Name) {
		t.Errorf("Each answers no closure over its text")
	}
}

func TestSplitAndRowsRangeOverEach(t *testing.T) {
	all := functions(t)
	for _, name := range []string{"Split", "Rows"} {
		if !holds(all[name].Body, rangesOverEach) {
			t.Errorf("%s does not range over Each", name)
		}
	}
}

func TestRowsCutFieldsWithThreeIndices(t *testing.T) {
	all := functions(t)
	found := holds(all["Rows"].Body, cutsWithThreeIndices)
	for name, f := range all {
		if names(all["Rows"].Body, name) && holds(f.Body, cutsWithThreeIndices) {
			found = true
		}
	}
	if !found {
		t.Errorf("neither Rows nor what it calls has a slice expression with three indices")
	}
}

func TestGrowingARowWritesIntoNothingElse(t *testing.T) {
	rows, _ := lines.Rows("a b # c d e\nf g\nh i j #\n")
	for i, row := range rows {
		if cap(row.Fields) != len(row.Fields) {
			t.Errorf("row %d has room behind its fields", i)
		}
	}
	grown := append(rows[0].Fields, "x")
	grown[0] = "y"
	if !slices.Equal(rows[0].Fields, []string{"a", "b"}) || !slices.Equal(rows[1].Fields, []string{"f", "g"}) {
		t.Errorf("a grown row wrote into %v", rows)
	}
}

// functions: the package's functions by their names.
func functions(t *testing.T) map[string]*ast.FuncDecl {
	t.Helper()
	file, err := parser.ParseFile(token.NewFileSet(), "lines.go", nil, 0)
	if err != nil {
		t.Fatal(err)
	}
	all := map[string]*ast.FuncDecl{}
	for _, d := range file.Decls {
		if f, ok := d.(*ast.FuncDecl); ok {
			all[f.Name.Name] = f
		}
	}
	return all
}

func holds(n ast.Node, is func(ast.Node) bool) bool {
	found := false
	ast.Inspect(n, func(n ast.Node) bool {
		found = found || is(n)
		return !found
	})
	return found
}

func names(n ast.Node, name string) bool {
	return holds(n, func(n ast.Node) bool {
		id, ok := n.(*ast.Ident)
		return ok && id.Name == name
	})
}

func rangesOverEach(n ast.Node) bool {
	loop, ok := n.(*ast.RangeStmt)
	if !ok {
		return false
	}
	call, ok := loop.X.(*ast.CallExpr)
	if !ok {
		return false
	}
	id, ok := call.Fun.(*ast.Ident)
	return ok && id.Name == "Each"
}

func cutsWithThreeIndices(n ast.Node) bool {
	cut, ok := n.(*ast.SliceExpr)
	return ok && cut.Slice3
}
