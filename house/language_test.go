package house

import (
	"go/ast"
	"go/format"
	"os"
	"path/filepath"
	"slices"
	"strconv"
	"strings"
	"testing"
)

// What the language of the program allows, as far as a look at the text tells it.

func TestImportsAreAllowed(t *testing.T) {
	allowed := strings.Fields("bytes cmp container/heap errors iter maps math math/bits slices sort strconv strings sync sync/atomic unicode unicode/utf8")
	for _, f := range programFiles(t) {
		for _, path := range imports(t, f) {
			if !strings.HasPrefix(path, "hornbook/") && !slices.Contains(allowed, path) {
				t.Errorf("%s imports %s", f.path, path)
			}
		}
	}
}

// TestLayersCallWhatTheMapNames: of the other layers a layer takes only those
// that the document's map names as its calls.
func TestLayersCallWhatTheMapNames(t *testing.T) {
	calls := mapOfCalls()
	for _, f := range programFiles(t) {
		below, layer := calls[f.pack]
		if !layer {
			continue
		}
		for _, path := range imports(t, f) {
			name := strings.TrimPrefix(path, "hornbook/")
			if _, other := calls[name]; name != path && other && !slices.Contains(below, name) {
				t.Errorf("%s imports %s", f.path, path)
			}
		}
	}
}

func mapOfCalls() map[string][]string {
	order := strings.Fields("lines words flags cond runs record heap streams batch merge aff dic tables printer rules derive analyse dawg walk image book cases near suggest joined report delta own desk")
	numbers := [][]int{
		{}, {}, {1}, {}, {}, {5}, {}, {5, 6, 7}, {5, 6}, {5, 6, 8, 9},
		{1, 2, 3, 4}, {1, 2, 11}, {11, 12}, {1, 2, 3, 13}, {4}, {13, 15}, {13, 15, 16}, {2, 6}, {6}, {2, 6, 19},
		{5, 8, 9, 10, 13, 16, 18, 19, 20}, {21}, {19}, {21, 22, 23}, {21}, {1, 21, 22, 25}, {18, 19}, {1, 2, 21},
	}
	calls := map[string][]string{"desk": order[:28]}
	for i, list := range numbers {
		calls[order[i]] = nil
		for _, n := range list {
			calls[order[i]] = append(calls[order[i]], order[n-1])
		}
	}
	return calls
}

func imports(t *testing.T, f file) []string {
	t.Helper()
	var paths []string
	for _, spec := range f.tree.Imports {
		path, err := strconv.Unquote(spec.Path.Value)
		if err != nil {
			t.Fatal(err)
		}
		paths = append(paths, path)
	}
	return paths
}

func TestNamesThatAreNotTaken(t *testing.T) {
	for _, f := range programFiles(t) {
		ast.Inspect(f.tree, func(n ast.Node) bool {
			x, ok := n.(*ast.SelectorExpr)
			if !ok {
				return true
			}
			of, ok := x.X.(*ast.Ident)
			if ok && of.Name == "iter" && strings.HasPrefix(x.Sel.Name, "Pull") ||
				ok && of.Name == "sync" && !slices.Contains([]string{"Mutex", "RWMutex", "WaitGroup", "Once"}, x.Sel.Name) {
				t.Errorf("%s takes %s.%s", f.path, of.Name, x.Sel.Name)
			}
			return true
		})
	}
}

func TestNoDirectives(t *testing.T) {
	for _, f := range programFiles(t) {
		for _, group := range f.tree.Comments {
			for _, c := range group.List {
				if strings.HasPrefix(c.Text, "//go:") || strings.HasPrefix(c.Text, "// +build") {
					t.Errorf("%s: %s", f.path, c.Text)
				}
			}
		}
	}
}

func TestFunctionsAreSmall(t *testing.T) {
	for _, f := range programFiles(t) {
		for _, d := range f.tree.Decls {
			if x, ok := d.(*ast.FuncDecl); ok {
				if n := f.set.Position(x.End()).Line - f.set.Position(x.Pos()).Line + 1; n > 60 {
					t.Errorf("%s: %s has %d lines", f.path, x.Name.Name, n)
				}
			}
		}
	}
}

func TestLayoutIsGofmts(t *testing.T) {
	for _, f := range programFiles(t) {
		laid, err := format.Source([]byte(f.text))
		if err != nil || string(laid) != f.text {
			t.Errorf("%s is not laid out by gofmt (%v)", f.path, err)
		}
	}
}

func TestPackagesHoldGoFilesAlone(t *testing.T) {
	folders, err := os.ReadDir(root)
	if err != nil {
		t.Fatal(err)
	}
	for _, folder := range folders {
		if !folder.IsDir() || !isOurs(folder.Name()) {
			continue
		}
		inside, err := os.ReadDir(filepath.Join(root, folder.Name()))
		if err != nil {
			t.Fatal(err)
		}
		for _, e := range inside {
			if e.IsDir() || !strings.HasSuffix(e.Name(), ".go") {
				t.Errorf("%s/%s stands beside the Go files", folder.Name(), e.Name())
			}
		}
	}
}

func TestModule(t *testing.T) {
	text, err := os.ReadFile(filepath.Join(root, "go.mod"))
	if err != nil || string(text) != "module hornbook\n\ngo 1.27\n" {
		t.Errorf("go.mod: %q, %v", text, err)
	}
}
