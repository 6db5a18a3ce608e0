package printer_test

import (
	"go/ast"
	"go/parser"
	"go/token"
	"path/filepath"
	"slices"
	"strings"
	"testing"

	"hornbook/printer"
)

// What the document's section 'Ways' says of layer 14.

// TestThePartsAreOfSeveralTypes: a file is a list of parts, each of a type for what it says.
func TestThePartsAreOfSeveralTypes(t *testing.T) {
	affixes, dictionary := printer.PartTypes(read(t, "SFX A Y 2\nSFX A 0 s\nSFX A 0 t\nPFX B Y 0\nPFX C N 1\nPFX C 0 u\n", "2\na\nb\n"))
	want := strings.Fields("flagKind charset letters specials least reps aliases class rule rule class class rule")
	if !slices.Equal(affixes, want) {
		t.Errorf("an affix file is made of %v; want %v", affixes, want)
	}
	if want := strings.Fields("count entry entry"); !slices.Equal(dictionary, want) {
		t.Errorf("a dictionary is made of %v; want %v", dictionary, want)
	}
}

// TestThePartsStandBehindOneInterface: it asks for one method, which each of the types has, and there is no other interface.
func TestThePartsStandBehindOneInterface(t *testing.T) {
	var interfaces []string
	methods := map[string]string{}
	look(t, func(n ast.Node) {
		switch x := n.(type) {
		case *ast.TypeSpec:
			if list, ok := x.Type.(*ast.InterfaceType); ok {
				interfaces = append(interfaces, x.Name.Name)
				if len(list.Methods.List) != 1 || list.Methods.List[0].Names[0].Name != "writeTo" {
					t.Errorf("%s asks for something else than writeTo", x.Name.Name)
				}
			}
		case *ast.FuncDecl:
			if x.Recv != nil && x.Name.Name == "writeTo" {
				methods[x.Recv.List[0].Type.(*ast.Ident).Name] = "writeTo"
			}
		}
	})
	if !slices.Equal(interfaces, []string{"part"}) {
		t.Errorf("the interfaces are %v", interfaces)
	}
	affixes, dictionary := printer.PartTypes(rich(t))
	for _, name := range slices.Concat(affixes, dictionary) {
		if methods[name] == "" {
			t.Errorf("%s has no writeTo", name)
		}
	}
}

// TestThePartsAreWrittenThroughTheInterface: at one place, for both files; nobody asks which of the types a part is.
func TestThePartsAreWrittenThroughTheInterface(t *testing.T) {
	calls := 0
	look(t, func(n ast.Node) {
		switch x := n.(type) {
		case *ast.CallExpr:
			if pick, ok := x.Fun.(*ast.SelectorExpr); ok && pick.Sel.Name == "writeTo" {
				calls++
			}
		case *ast.TypeSwitchStmt, *ast.TypeAssertExpr:
			t.Errorf("a type is asked for")
		}
	})
	if calls != 1 {
		t.Errorf("writeTo is called at %d places", calls)
	}
	write := function(t, "write")
	if parts := write.Type.Params.List[0].Type.(*ast.Ellipsis).Elt; !isName(parts, "part") || !holds(write.Body, isCallOf("p", "writeTo")) {
		t.Errorf("write doesn't call the parts through their interface")
	}
	for _, name := range []string{"Aff", "Dic"} {
		if !holds(function(t, name).Body, isCallOf("s", "write")) {
			t.Errorf("%s doesn't write by parts", name)
		}
	}
}

func TestNothingStandsAtPackageLevelButConstants(t *testing.T) { // the language, 3a and 3b; rule 8
	look(t, func(n ast.Node) {
		file, ok := n.(*ast.File)
		if !ok {
			return
		}
		for _, d := range file.Decls {
			if g, ok := d.(*ast.GenDecl); ok && g.Tok == token.VAR {
				t.Errorf("there is a variable at package level")
			}
		}
	})
}

func isName(e ast.Expr, name string) bool {
	id, ok := e.(*ast.Ident)
	return ok && id.Name == name
}

func isCallOf(of, name string) func(ast.Node) bool {
	return func(n ast.Node) bool {
		call, ok := n.(*ast.CallExpr)
		if !ok {
			return false
		}
		pick, ok := call.Fun.(*ast.SelectorExpr)
		return ok && isName(pick.X, of) && pick.Sel.Name == name
	}
}

func holds(n ast.Node, is func(ast.Node) bool) bool {
	found := false
	ast.Inspect(n, func(n ast.Node) bool {
		found = found || n != nil && is(n)
		return !found
	})
	return found
}

func function(t *testing.T, name string) *ast.FuncDecl {
	t.Helper()
	var found *ast.FuncDecl
	look(t, func(n ast.Node) {
		if f, ok := n.(*ast.FuncDecl); ok && f.Name.Name == name {
			found = f
		}
	})
	if found == nil {
		t.Fatalf("there is no %s", name)
	}
	return found
}

// look goes through the package's files, but for tests.
func look(t *testing.T, at func(ast.Node)) {
	t.Helper()
	paths, err := filepath.Glob("*.go")
	if err != nil {
		t.Fatal(err)
	}
	for _, path := range paths {
		if strings.HasSuffix(path, "_test.go") {
			continue
		}
		file, err := parser.ParseFile(token.NewFileSet(), path, nil, 0)
		if err != nil {
			t.Fatal(err)
		}
		ast.Inspect(file, func(n ast.Node) bool {
			if n != nil {
				at(n)
			}
			return true
		})
	}
}
