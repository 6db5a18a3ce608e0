// Package house holds the tests of what all packages of the program keep to.
package house

import (
	"go/ast"
	"go/parser"
	"go/token"
	"os"
	"path/filepath"
	"slices"
	"strings"
	"testing"
)

const root = ".."

// file is a Go file of the program, tests left out.
type file struct {
	pack, path string
	text       string
	set        *token.FileSet
	tree       *ast.File
}

// programFiles: the Go files of all packages, but for tests.
func programFiles(t *testing.T) []file {
	t.Helper()
	paths, err := filepath.Glob(filepath.Join(root, "*", "*.go"))
	if err != nil || len(paths) == 0 {
		t.Fatalf("no Go files: %v", err)
	}
	var files []file
	for _, path := range paths {
		pack := filepath.Base(filepath.Dir(path))
		if isOurs(pack) && !strings.HasSuffix(path, "_test.go") {
			files = append(files, readFile(t, pack, path))
		}
	}
	return files
}

// isOurs: in a throw-away copy of the checkout other folders may lie beside the
// program's own; the program has none of these names.
func isOurs(folder string) bool {
	return !strings.HasPrefix(folder, ".") && !strings.HasPrefix(folder, "hornbook") &&
		!slices.Contains([]string{"sharedtests", "form", "try"}, folder)
}

func readFile(t *testing.T, pack, path string) file {
	t.Helper()
	text, err := os.ReadFile(path)
	if err != nil {
		t.Fatal(err)
	}
	set := token.NewFileSet()
	tree, err := parser.ParseFile(set, path, text, parser.ParseComments)
	if err != nil {
		t.Fatal(err)
	}
	return file{pack: pack, path: path, text: string(text), set: set, tree: tree}
}
