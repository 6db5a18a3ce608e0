package flags_test

import (
	"go/ast"
	"go/parser"
	"go/token"
	"testing"
)

// What the document's section 'Ways' says of layer 3.

func TestSetsAreTakenAndMadeByVariadicFunctions(t *testing.T) {
	all := functions(t)
	for _, name := range []string{"Of", "Show", "Fold", "Any", "All", "With", "Without"} {
		params := all[name].Type.Params.List
		if _, ok := params[len(params)-1].Type.(*ast.Ellipsis); !ok {
			t.Errorf("%s is not variadic", name)
		}
	}
}

func TestAQuestionFoldsByTheMethodExpression(t *testing.T) {
	all := functions(t)
	for _, name := range []string{"Has", "Any", "All", "Count", "Equal"} {
		found := holds(all[name].Body, func(n ast.Node) bool {
			call, ok := n.(*ast.CallExpr)
			return ok && isName(call.Fun, "Fold") && isPick(call.Args[0], "Set", "With")
		})
		if found {
			return
		}
	}
	t.Errorf("no question of the set folds by Set.With")
}

func TestAQuestionHandsOnTheMethodValue(t *testing.T) {
	all := functions(t)
	for _, name := range []string{"Any", "All", "Count", "Equal"} {
		found := holds(all[name].Body, func(n ast.Node) bool {
			call, ok := n.(*ast.CallExpr)
			if !ok {
				return false
			}
			for _, arg := range call.Args {
				if isPick(arg, "s", "Has") {
					return true
				}
			}
			return false
		})
		if found {
			return
		}
	}
	t.Errorf("no question of the set hands on s.Has")
}

func TestWhatIsHandedInIsCopiedFirst(t *testing.T) {
	all := functions(t)
	if !calling(all["own"], "copy") {
		t.Errorf("own does not copy")
	}
	for _, name := range []string{"Of", "With"} {
		if !calling(all[name], "own") {
			t.Errorf("%s does not copy what is handed in", name)
		}
	}
	for _, name := range []string{"Show", "Fold", "Without", "Count", "Equal"} {
		if !calling(all[name], "Of") {
			t.Errorf("%s does not copy what is handed in", name)
		}
	}
}

func calling(f *ast.FuncDecl, name string) bool {
	return f != nil && holds(f.Body, func(n ast.Node) bool {
		call, ok := n.(*ast.CallExpr)
		return ok && isName(call.Fun, name)
	})
}

func isName(e ast.Expr, name string) bool {
	id, ok := e.(*ast.Ident)
	return ok && id.Name == name
}

func isPick(e ast.Expr, of, name string) bool {
	pick, ok := e.(*ast.SelectorExpr)
	return ok && isName(pick.X, of) && pick.Sel.Name == name
}

// functions: the package's functions and methods by their names.
func functions(t *testing.T) map[string]*ast.FuncDecl {
	t.Helper()
	file, err := parser.ParseFile(token.NewFileSet(), "flags.go", nil, 0)
	if err != nil {
		t.Fatal(err)
	}
	all := map[string]*ast.FuncDecl{}
	for _, d := range file.Decls {
		if f, ok := d.(*ast.FuncDecl); ok {
			all[f.Name.Name] = f
		}
	}
	return all
}

func holds(n ast.Node, is func(ast.Node) bool) bool {
	found := false
	ast.Inspect(n, func(n ast.Node) bool {
		found = found || is(n)
		return !found
	})
	return found
}
