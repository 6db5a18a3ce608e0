package words_test

import (
	"go/ast"
	"go/parser"
	"go/token"
	"testing"
)

// What the document's section 'Ways' says of layer 2.

func TestLettersMarksWhatItMetInAnArray(t *testing.T) {
	arrays := map[string]bool{}
	body := functions(t)["Letters"].Body
	ast.Inspect(body, func(n ast.Node) bool {
		if v, ok := n.(*ast.ValueSpec); ok {
			if a, ok := v.Type.(*ast.ArrayType); ok && a.Len != nil {
				arrays[v.Names[0].Name] = true
			}
		}
		return true
	})
	marked := holds(body, func(n ast.Node) bool {
		set, ok := n.(*ast.AssignStmt)
		if !ok {
			return false
		}
		place, ok := set.Lhs[0].(*ast.IndexExpr)
		if !ok {
			return false
		}
		id, ok := place.X.(*ast.Ident)
		return ok && arrays[id.Name]
	})
	if !marked {
		t.Errorf("Letters marks nothing in an array of fixed length")
	}
}

func TestReadFallsThroughFromAnEscapedByteToAPlainOne(t *testing.T) {
	found := holds(functions(t)["Read"].Body, func(n ast.Node) bool {
		choice, ok := n.(*ast.SwitchStmt)
		if !ok {
			return false
		}
		for i, s := range choice.Body.List[:len(choice.Body.List)-1] {
			clause := s.(*ast.CaseClause)
			next := choice.Body.List[i+1].(*ast.CaseClause)
			if isFor(clause, `'\\'`) && endsInFallthrough(clause) && next.List == nil {
				return true
			}
		}
		return false
	})
	if !found {
		t.Errorf("Read has no clause for the backslash that falls through to the plain one")
	}
}

func isFor(clause *ast.CaseClause, literal string) bool {
	for _, e := range clause.List {
		if l, ok := e.(*ast.BasicLit); ok && l.Value == literal {
			return true
		}
	}
	return false
}

func endsInFallthrough(clause *ast.CaseClause) bool {
	if len(clause.Body) == 0 {
		return false
	}
	last, ok := clause.Body[len(clause.Body)-1].(*ast.BranchStmt)
	return ok && last.Tok == token.FALLTHROUGH
}

// functions: the package's functions by their names.
func functions(t *testing.T) map[string]*ast.FuncDecl {
	t.Helper()
	file, err := parser.ParseFile(token.NewFileSet(), "words.go", nil, 0)
	if err != nil {
		t.Fatal(err)
	}
	all := map[string]*ast.FuncDecl{}
	for _, d := range file.Decls {
		if f, ok := d.(*ast.FuncDecl); ok {
			all[f.Name.Name] = f
		}
	}
	return all
}

func holds(n ast.Node, is func(ast.Node) bool) bool {
	found := false
	ast.Inspect(n, func(n ast.Node) bool {
		found = found || is(n)
		return !found
	})
	return found
}
