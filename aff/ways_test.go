package aff_test

import (
	"go/ast"
	"go/parser"
	"go/token"
	"path/filepath"
	"slices"
	"strings"
	"testing"
)

// What the document's section 'Ways' says of layer 11.

// TestATableOfTheKeywordsKeepsMethodExpressions: a function makes it; each keyword has one of the reader's in a function field.
func TestATableOfTheKeywordsKeepsMethodExpressions(t *testing.T) {
	table := function(t, "keywords")
	if table.Recv != nil || table.Type.Params.NumFields() != 0 {
		t.Errorf("the table is made by more than a function")
	}
	kept := map[string]string{}
	ast.Inspect(table.Body, func(n ast.Node) bool {
		pair, ok := n.(*ast.KeyValueExpr)
		if !ok {
			return true
		}
		key, ok := pair.Key.(*ast.BasicLit)
		row, isRow := pair.Value.(*ast.CompositeLit)
		if !ok || !isRow {
			return true
		}
		for _, field := range row.Elts {
			if f, ok := field.(*ast.KeyValueExpr); ok && isName(f.Key, "read") {
				kept[strings.Trim(key.Value, `"`)] = methodExpression(f.Value)
			}
		}
		return true
	})
	for _, heading := range fit {
		name, _, _ := strings.Cut(heading, " ")
		method := find(t, kept[name])
		if method == nil || method.Recv == nil {
			t.Errorf("%s has no method expression of the reader: %q", name, kept[name])
		}
	}
	if len(kept) != len(fit) {
		t.Errorf("the table has %d keywords; there are %d", len(kept), len(fit))
	}
	if !slices.ContainsFunc(fields(t, "keyword"), func(f *ast.Field) bool {
		_, isFunction := f.Type.(*ast.FuncType)
		return isFunction && isName(f.Names[0], "read")
	}) {
		t.Errorf("a keyword has no function field")
	}
	if !reaches(t, "Read", func(n ast.Node) bool {
		call, ok := n.(*ast.CallExpr)
		return ok && isPick(call.Fun, "word", "read")
	}) {
		t.Errorf("what the table keeps is not called")
	}
}

// methodExpression: the method of (*reader).method.
func methodExpression(e ast.Expr) string {
	pick, ok := e.(*ast.SelectorExpr)
	if !ok {
		return ""
	}
	star, ok := ast.Unparen(pick.X).(*ast.StarExpr)
	if !ok || !isName(star.X, "reader") {
		return ""
	}
	return pick.Sel.Name
}

// TestARowAtFaultLeavesByPanic: at one place for all faults of rows.
func TestARowAtFaultLeavesByPanic(t *testing.T) {
	raise := function(t, "leaveWith")
	if !holds(raise.Body, isCallOf("panic")) || raise.Recv == nil {
		t.Errorf("leaveWith does not panic")
	}
	for _, name := range []string{"readHeading", "groupRow", "readKind", "readSpecial", "readReps", "readAliases", "readClass", "rule", "piece", "condition", "checkNexts"} {
		f := function(t, name)
		if holds(f.Body, isCallOf("panic")) || !reaches(t, name, isCallOf("panic")) {
			t.Errorf("%s does not leave by leaveWith", name)
		}
		if returnsErrno(f) {
			t.Errorf("%s hands an error on", name)
		}
	}
}

func returnsErrno(f *ast.FuncDecl) bool {
	return f.Type.Results != nil && holds(f.Type.Results, func(n ast.Node) bool {
		e, ok := n.(ast.Expr)
		return ok && isPick(e, "api", "Errno")
	})
}

// TestReadRecoversInADeferredFunction: a literal, and the only one.
func TestReadRecoversInADeferredFunction(t *testing.T) {
	recovering := func(n ast.Node) bool {
		late, ok := n.(*ast.DeferStmt)
		if !ok {
			return false
		}
		literal, ok := late.Call.Fun.(*ast.FuncLit)
		return ok && holds(literal.Body, isCallOf("recover"))
	}
	if !reaches(t, "Read", recovering) {
		t.Errorf("Read recovers nothing")
	}
	deferred := 0
	for _, file := range parse(t) {
		ast.Inspect(file, func(n ast.Node) bool {
			if _, ok := n.(*ast.DeferStmt); ok {
				deferred++
			}
			return true
		})
	}
	if deferred != 1 {
		t.Errorf("%d functions are deferred; one is enough for all rows", deferred)
	}
}

// TestTheReaderEmbedsTheFile: and uses its fields and methods as if they were its own.
func TestTheReaderEmbedsTheFile(t *testing.T) {
	own := map[string]bool{}
	embeds := false
	for _, f := range fields(t, "reader") {
		if star, ok := f.Type.(*ast.StarExpr); ok && len(f.Names) == 0 {
			embeds = embeds || isName(star.X, "File")
		}
		for _, name := range f.Names {
			own[name.Name] = true
		}
	}
	if !embeds {
		t.Fatalf("the reader does not embed the file")
	}
	for _, f := range fields(t, "File") {
		name := f.Names[0].Name
		if own[name] || !reaches(t, "Read", func(n ast.Node) bool {
			e, ok := n.(ast.Expr)
			return ok && isPick(e, "r", name)
		}) {
			t.Errorf("the reader does not use the file's field %s as its own", name)
		}
	}
	for _, name := range []string{"Class", "Flags"} {
		if receiver(function(t, name)) != "File" || !reaches(t, "Read", func(n ast.Node) bool {
			call, ok := n.(*ast.CallExpr)
			return ok && isPick(call.Fun, "r", name)
		}) {
			t.Errorf("the reader does not use the file's method %s as its own", name)
		}
	}
}

// receiver: the type that the method is one of.
func receiver(f *ast.FuncDecl) string {
	if f.Recv == nil {
		return ""
	}
	if star, ok := f.Recv.List[0].Type.(*ast.StarExpr); ok {
		return star.X.(*ast.Ident).Name
	}
	return ""
}

func TestNothingStandsAtPackageLevelButConstants(t *testing.T) { // the language, 3a and 3b
	for _, file := range parse(t) {
		for _, d := range file.Decls {
			if g, ok := d.(*ast.GenDecl); ok && g.Tok == token.VAR {
				t.Errorf("there is a variable at package level")
			}
		}
	}
}

func isCallOf(name string) func(ast.Node) bool {
	return func(n ast.Node) bool {
		call, ok := n.(*ast.CallExpr)
		return ok && isName(call.Fun, name)
	}
}

func isName(e ast.Expr, name string) bool {
	id, ok := e.(*ast.Ident)
	return ok && id.Name == name
}

func isPick(e ast.Expr, of, name string) bool {
	pick, ok := e.(*ast.SelectorExpr)
	return ok && isName(pick.X, of) && pick.Sel.Name == name
}

func holds(n ast.Node, is func(ast.Node) bool) bool {
	found := false
	ast.Inspect(n, func(n ast.Node) bool {
		found = found || n != nil && is(n)
		return !found
	})
	return found
}

// reaches: is there such a thing in that function, or in those of the package that it names?
func reaches(t *testing.T, name string, is func(ast.Node) bool) bool {
	t.Helper()
	all := map[string]*ast.FuncDecl{}
	for _, file := range parse(t) {
		for _, d := range file.Decls {
			if f, ok := d.(*ast.FuncDecl); ok {
				all[f.Name.Name] = f
			}
		}
	}
	seen := map[string]bool{}
	found := false
	var look func(name string)
	look = func(name string) {
		f := all[name]
		if f == nil || seen[name] {
			return
		}
		seen[name] = true
		ast.Inspect(f.Body, func(n ast.Node) bool {
			found = found || n != nil && is(n)
			if id, ok := n.(*ast.Ident); ok {
				look(id.Name)
			}
			return true
		})
	}
	look(function(t, name).Name.Name)
	return found
}

func function(t *testing.T, name string) *ast.FuncDecl {
	t.Helper()
	f := find(t, name)
	if f == nil {
		t.Fatalf("there is no %s", name)
	}
	return f
}

func find(t *testing.T, name string) *ast.FuncDecl {
	t.Helper()
	for _, file := range parse(t) {
		for _, d := range file.Decls {
			if f, ok := d.(*ast.FuncDecl); ok && f.Name.Name == name {
				return f
			}
		}
	}
	return nil
}

// fields: those of a struct of the package.
func fields(t *testing.T, name string) []*ast.Field {
	t.Helper()
	var list []*ast.Field
	for _, file := range parse(t) {
		ast.Inspect(file, func(n ast.Node) bool {
			if y, ok := n.(*ast.TypeSpec); ok && y.Name.Name == name {
				list = y.Type.(*ast.StructType).Fields.List
			}
			return true
		})
	}
	if list == nil {
		t.Fatalf("there is no struct %s", name)
	}
	return list
}

// parse: the package's files, but for tests.
func parse(t *testing.T) []*ast.File {
	t.Helper()
	paths, err := filepath.Glob("*.go")
	if err != nil {
		t.Fatal(err)
	}
	var files []*ast.File
	for _, path := range paths {
		if strings.HasSuffix(path, "_test.go") {
			continue
		}
		file, err := parser.ParseFile(token.NewFileSet(), path, nil, 0)
		if err != nil {
			t.Fatal(err)
		}
		files = append(files, file)
	}
	return files
}
