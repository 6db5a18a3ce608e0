package streams_test

import (
	"go/ast"
	"go/parser"
	"go/token"
	"testing"
)

// What the document's section 'Ways' says of layer 8.

func TestAStreamIsAFunctionInAField(t *testing.T) {
	fields := typeOf(t, "Stream").Type.(*ast.StructType).Fields.List
	if len(fields) != 1 || len(fields[0].Names) != 1 {
		t.Fatalf("a Stream is not one field")
	}
	if _, ok := fields[0].Type.(*ast.FuncType); !ok {
		t.Errorf("the field %s is no function", fields[0].Names[0].Name)
	}
}

func TestStreamsAreRangedOver(t *testing.T) {
	for _, name := range []string{"List", "Count", "Has", "From", "Minus", "Common", "Union"} {
		if !reaches(t, name, isRangeOverAll) {
			t.Errorf("%s does not range over a stream", name)
		}
	}
}

// isRangeOverAll: for w := range s.All()
func isRangeOverAll(n ast.Node) bool {
	loop, ok := n.(*ast.RangeStmt)
	if !ok {
		return false
	}
	call, ok := loop.X.(*ast.CallExpr)
	if !ok {
		return false
	}
	pick, ok := call.Fun.(*ast.SelectorExpr)
	return ok && pick.Sel.Name == "All"
}

func TestStreamsAreHeldAgainstOneAnotherAsListsThatAreCutOff(t *testing.T) {
	if _, ok := typeOf(t, "cursor").Type.(*ast.ArrayType); !ok {
		t.Errorf("a cursor is no list")
	}
	for _, name := range []string{"Minus", "Common", "Union"} {
		if !reaches(t, name, isCutOff) {
			t.Errorf("%s cuts no list off from its beginning", name)
		}
	}
}

// isCutOff: list[1:]
func isCutOff(n ast.Node) bool {
	cut, ok := n.(*ast.SliceExpr)
	if !ok || cut.High != nil {
		return false
	}
	low, ok := cut.Low.(*ast.BasicLit)
	return ok && low.Value == "1"
}

func TestTheUnionIsAHeapOfCursorsByAMethodExpression(t *testing.T) {
	if !reaches(t, "Union", func(n ast.Node) bool {
		call, ok := n.(*ast.CallExpr)
		return ok && isPick(call.Fun, "heap", "New") && len(call.Args) == 1 && isMethodExpression(t, call.Args[0], "cursor")
	}) {
		t.Errorf("Union makes no heap by a method of cursors")
	}
}

func isMethodExpression(t *testing.T, e ast.Expr, of string) bool {
	t.Helper()
	pick, ok := e.(*ast.SelectorExpr)
	if !ok || !isName(pick.X, of) {
		return false
	}
	f := functions(t)[pick.Sel.Name]
	return f != nil && f.Recv != nil && isName(f.Recv.List[0].Type, of)
}

func isName(e ast.Expr, name string) bool {
	id, ok := e.(*ast.Ident)
	return ok && id.Name == name
}

func isPick(e ast.Expr, of, name string) bool {
	pick, ok := e.(*ast.SelectorExpr)
	return ok && isName(pick.X, of) && pick.Sel.Name == name
}

// reaches: is there such a thing in that function, or in those of the package that it names?
func reaches(t *testing.T, name string, is func(ast.Node) bool) bool {
	t.Helper()
	all := functions(t)
	seen := map[string]bool{}
	found := false
	var look func(name string)
	look = func(name string) {
		f := all[name]
		if f == nil || seen[name] {
			return
		}
		seen[name] = true
		ast.Inspect(f.Body, func(n ast.Node) bool {
			if n == nil {
				return true
			}
			found = found || is(n)
			if id, ok := n.(*ast.Ident); ok {
				look(id.Name)
			}
			return true
		})
	}
	if all[name] == nil {
		t.Fatalf("there is no %s", name)
	}
	look(name)
	return found
}

func functions(t *testing.T) map[string]*ast.FuncDecl {
	t.Helper()
	all := map[string]*ast.FuncDecl{}
	for _, file := range parse(t) {
		for _, d := range file.Decls {
			if f, ok := d.(*ast.FuncDecl); ok {
				all[f.Name.Name] = f
			}
		}
	}
	return all
}

func typeOf(t *testing.T, name string) *ast.TypeSpec {
	t.Helper()
	for _, file := range parse(t) {
		for _, d := range file.Decls {
			group, ok := d.(*ast.GenDecl)
			if !ok {
				continue
			}
			for _, s := range group.Specs {
				if y, ok := s.(*ast.TypeSpec); ok && y.Name.Name == name {
					return y
				}
			}
		}
	}
	t.Fatalf("there is no type %s", name)
	return nil
}

func parse(t *testing.T) []*ast.File {
	t.Helper()
	var files []*ast.File
	for _, name := range []string{"streams.go", "union.go"} {
		file, err := parser.ParseFile(token.NewFileSet(), name, nil, 0)
		if err != nil {
			t.Fatal(err)
		}
		files = append(files, file)
	}
	return files
}
