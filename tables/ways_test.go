package tables_test

import (
	"go/ast"
	"go/parser"
	"go/token"
	"path/filepath"
	"slices"
	"strings"
	"testing"

	"hornbook/aff"
	"hornbook/api"
	"hornbook/dic"
	"hornbook/flags"
	"hornbook/tables"
)

// What the document's section 'Ways' says of layer 13.

// ofFile is what a file answers, ofWords what a dictionary answers.
type ofFile interface {
	Affixes() api.Affixes
	Class(flag api.Flag) (api.Class, bool)
	Flags(s string) (flags.Set, api.Errno)
	Write(fs ...api.Flag) (string, api.Errno)
}

type ofWords interface {
	Entries() []api.Entry
	Find(word string) []int
	Len() int
}

// TestTheFilesAndTheDictionarysMethodsArePromoted: Tables has them, and none of them is written again.
func TestTheFilesAndTheDictionarysMethodsArePromoted(t *testing.T) {
	var _ interface {
		ofFile
		ofWords
	} = (*tables.Tables)(nil)
	for _, file := range parse(t) {
		for _, d := range file.Decls {
			f, ok := d.(*ast.FuncDecl)
			if ok && slices.Contains(strings.Fields("Affixes Class Flags Write Entries Find Len"), f.Name.Name) {
				t.Errorf("%s is written again", f.Name.Name)
			}
		}
	}
}

// TestTablesEmbedTheFileAndTheDictionary: as the chapter lists them, ahead of the program's own fields.
func TestTablesEmbedTheFileAndTheDictionary(t *testing.T) {
	var embedded []string
	for _, file := range parse(t) {
		ast.Inspect(file, func(n ast.Node) bool {
			if y, ok := n.(*ast.TypeSpec); ok && y.Name.Name == "Tables" {
				embedded = append(embedded, embeddedIn(y.Type.(*ast.StructType))...)
			}
			return true
		})
	}
	if !slices.Equal(embedded, []string{"*aff.File", "*dic.Words"}) {
		t.Errorf("Tables embed %v", embedded)
	}
	u := example(t)
	var file *aff.File = u.File
	var words *dic.Words = u.Words
	if file == nil || words == nil {
		t.Errorf("File is %v, Words is %v", file, words)
	}
}

func embeddedIn(s *ast.StructType) []string {
	var names []string
	for _, f := range s.Fields.List {
		star, ok := f.Type.(*ast.StarExpr)
		if !ok || len(f.Names) > 0 {
			continue
		}
		if pick, ok := star.X.(*ast.SelectorExpr); ok {
			names = append(names, "*"+pick.X.(*ast.Ident).Name+"."+pick.Sel.Name)
		}
	}
	return names
}

// TestThePromotedMethodsAreUsedAsOnesOwn: the package takes what the file and the dictionary say through the tables.
func TestThePromotedMethodsAreUsedAsOnesOwn(t *testing.T) {
	used := map[string]bool{}
	for _, file := range parse(t) {
		ast.Inspect(file, func(n ast.Node) bool {
			call, ok := n.(*ast.CallExpr)
			if !ok {
				return true
			}
			if pick, ok := call.Fun.(*ast.SelectorExpr); ok {
				if of, ok := pick.X.(*ast.Ident); ok && of.Name == "t" {
					used[pick.Sel.Name] = true
				}
			}
			return true
		})
	}
	for _, name := range []string{"Affixes", "Class", "Entries"} {
		if !used[name] {
			t.Errorf("%s is not asked of the tables", name)
		}
	}
}

// parse: the package's files, but for tests.
func parse(t *testing.T) []*ast.File {
	t.Helper()
	paths, err := filepath.Glob("*.go")
	if err != nil {
		t.Fatal(err)
	}
	var files []*ast.File
	for _, path := range paths {
		if strings.HasSuffix(path, "_test.go") {
			continue
		}
		file, err := parser.ParseFile(token.NewFileSet(), path, nil, 0)
		if err != nil {
			t.Fatal(err)
		}
		files = append(files, file)
	}
	return files
}

// TestTheyAnswerAsTheFilesAndTheDictionarysOwn: as a file and a dictionary that were read apart of the same texts.
func TestTheyAnswerAsTheFilesAndTheDictionarysOwn(t *testing.T) { // section 'Functions'
	for _, affixes := range []string{
		"", "NEEDAFFIX N\nSFX A Y 2\nSFX A 0 s\nSFX A 0 er/BN\nPFX P Y 1\nPFX P 0 re\nSFX B Y 1\nSFX B 0 s\n",
		"FLAG num\nAF 3\nAF 300,7\nAF 7\nAF 1\nSET x\nTRY abc\nCOMPOUNDMIN 9\nREP 1\nREP a b\nSFX 300 Y 1\nSFX 300 0 s/1\nPFX 1 N 0\nSFX 7 N 0\n", "FLAG long\nKEEPCASE AA\nPFX AB Y 0\n",
	} {
		for _, words := range []string{"0", "1\na\n", "3\ndo/AP\nfit/N\ndo\n", "5\na/1\nin\\/out\nb/3\na\na/2\n", "2\na/AAAB\nb/AB\n"} {
			file, fault := aff.Read(affixes)
			if fault != (api.Fault{}) {
				t.Fatal(fault)
			}
			dictionary, fault := dic.Read(file, words)
			if fault != (api.Fault{}) {
				expectFault(t, fault, affixes, words)
				continue
			}
			u := read(t, affixes, words)
			compareFiles(t, u, file)
			compareWords(t, u, dictionary)
			compareFiles(t, u.File, file)
			compareWords(t, u.Words, dictionary)
		}
	}
}

func compareFiles(t *testing.T, got, want ofFile) {
	t.Helper()
	a, b := got.Affixes(), want.Affixes()
	if a.Kind != b.Kind || a.Charset != b.Charset || a.Try != b.Try || a.Specials != b.Specials || a.Least != b.Least ||
		!slices.Equal(a.Reps, b.Reps) || !slices.Equal(a.Classes, b.Classes) ||
		!slices.EqualFunc(a.Aliases, b.Aliases, slices.Equal[[]api.Flag]) || !slices.EqualFunc(a.Rules, b.Rules, sameRule) {
		t.Errorf("Affixes() = %v; want %v", a, b)
	}
	for n := range 65536 {
		c, ok := got.Class(api.Flag(n))
		if d, known := want.Class(api.Flag(n)); c != d || ok != known {
			t.Errorf("Class(%d) = %v, %v; want %v, %v", n, c, ok, d, known)
		}
	}
	for _, s := range []string{"", "A", "BA", "NN", "AB", "0", "1", "3", "4", "7,300", "65536", "/", long(64), long(65)} {
		set, e := got.Flags(s)
		if other, f := want.Flags(s); !slices.Equal(set, other) || e != f {
			t.Errorf("Flags(%q) = %v, %d; want %v, %d", s, set, e, other, f)
		}
	}
	for _, fs := range []flags.Set{nil, {0}, {'A'}, {'B', 'A', 'B'}, {7, 300}, {7}, {1}, {16705}, {60000}} {
		text, e := got.Write(fs...)
		if other, f := want.Write(fs...); text != other || e != f {
			t.Errorf("Write(%v) = %q, %d; want %q, %d", fs, text, e, other, f)
		}
	}
}

func compareWords(t *testing.T, got, want ofWords) {
	t.Helper()
	if a, b := got.Entries(), want.Entries(); !slices.EqualFunc(a, b, sameEntry) || got.Len() != len(b) {
		t.Errorf("Entries() = %v, %d of them; want %v", a, got.Len(), b)
	}
	for _, word := range []string{"", "a", "b", "do", "fit", "in/out", `in\/out`, "x", long(99)} {
		if a, b := got.Find(word), want.Find(word); !slices.Equal(a, b) {
			t.Errorf("Find(%q) = %v; want %v", word, a, b)
		}
	}
}
