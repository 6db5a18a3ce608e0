package house

import (
	"go/ast"
	"go/printer"
	"go/token"
	"strings"
	"testing"
)

// TestCallsStandAsListed: each layer has the types and the calls that its
// chapter lists, by their exact signatures, built or not.
func TestCallsStandAsListed(t *testing.T) {
	stands := map[string]bool{}
	for _, f := range programFiles(t) {
		for _, d := range f.tree.Decls {
			for _, line := range declared(d) {
				stands[f.pack+": "+line] = true
			}
		}
	}
	for _, want := range strings.Split(strings.TrimSpace(listedCalls), "\n") {
		if !stands[want] {
			t.Errorf("missing: %s", want)
		}
	}
}

// declared: a declaration as the chapters write it.
func declared(d ast.Decl) []string {
	if f, ok := d.(*ast.FuncDecl); ok {
		head := *f
		head.Doc, head.Body = nil, nil
		var text strings.Builder
		if printer.Fprint(&text, token.NewFileSet(), &head) != nil {
			return nil
		}
		return []string{text.String()}
	}
	var types []string
	for _, s := range d.(*ast.GenDecl).Specs {
		if y, ok := s.(*ast.TypeSpec); ok {
			types = append(types, "type "+y.Name.Name)
		}
	}
	return types
}

const listedCalls = `
lines: func Split(text string) ([]string, api.Errno)
lines: func Each(text string) iter.Seq2[int, string]
lines: func Fields(line string) []string
lines: func Rows(text string) ([]api.Row, api.Errno)
lines: func Show(rows ...[]string) (string, api.Errno)
lines: func Number(s string, most int) (int, api.Errno)
lines: func Decimal(n int) string
words: func Valid(w string) bool
words: func Read(field string) (word, rest string, cut bool, e api.Errno)
words: func Write(w string) string
words: func Common(a, b string) int
words: func Reverse(w string) string
words: func Letters(s string) (string, api.Errno)
flags: type Set
flags: func Of(fs ...api.Flag) Set
flags: func One(kind int, s string) (api.Flag, api.Errno)
flags: func Read(kind int, s string) (Set, api.Errno)
flags: func Show(kind int, fs ...api.Flag) (string, api.Errno)
flags: func Fold(op func(Set, ...api.Flag) Set, start Set, groups ...[]api.Flag) Set
flags: func (s Set) Has(f api.Flag) bool
flags: func (s Set) Any(fs ...api.Flag) bool
flags: func (s Set) All(fs ...api.Flag) bool
flags: func (s Set) With(fs ...api.Flag) Set
flags: func (s Set) Without(fs ...api.Flag) Set
flags: func (s Set) Count() int
flags: func (s Set) Equal(t Set) bool
cond: type Pattern
cond: func Read(s string) (Pattern, api.Errno)
cond: func Join(ps ...Pattern) (Pattern, api.Errno)
cond: func (p Pattern) Len() int
cond: func (p Pattern) Admits(i int, b byte) bool
cond: func (p Pattern) Starts(w string) bool
cond: func (p Pattern) Ends(w string) bool
cond: func (p Pattern) Show() string
cond: func (p Pattern) Equal(q Pattern) bool
runs: type Store
runs: func New(capacity int) *Store
runs: func (s *Store) Create() (int, error)
runs: func (s *Store) Append(run int, parts ...string) error
runs: func (s *Store) Seal(run int) error
runs: func (s *Store) Read(run, at, n int) (string, error)
runs: func (s *Store) Size(run int) (int, error)
runs: func (s *Store) Remove(run int) error
runs: func (s *Store) Live() []int
runs: func (s *Store) Used() int
runs: func (s *Store) Peak() int
runs: func (s *Store) Made() int
runs: func (s *Store) Break(n int)
record: func Uint(n uint64) string
record: func ReadUint(s string, at int) (n uint64, next int, e api.Errno)
record: func Frame(recs ...string) (string, api.Errno)
record: func Unframe(s string) ([]string, api.Errno)
record: type Writer
record: func Open(s *runs.Store, block int) (*Writer, error)
record: func (w *Writer) Put(recs ...string) error
record: func (w *Writer) Close() (int, error)
record: func (w *Writer) Drop()
record: type Reader
record: func From(s *runs.Store, run, block int) (*Reader, error)
record: func (r *Reader) Next() (string, bool, error)
heap: type Heap
heap: func New[T any](less func(a, b T) bool, items ...T) *Heap[T]
heap: func (h *Heap[T]) Push(items ...T)
heap: func (h *Heap[T]) Pop() (T, bool)
heap: func (h *Heap[T]) Peek() (T, bool)
heap: func (h *Heap[T]) Replace(item T) (T, bool)
heap: func (h *Heap[T]) Len() int
heap: func (h *Heap[T]) Drain() []T
heap: type Item
heap: func (a Item) Less(b Item) bool
heap: func Items(items ...Item) *Heap[Item]
heap: func Words(words ...string) *Heap[string]
streams: type Stream
streams: func Of(words ...string) Stream
streams: func Union(ss ...Stream) Stream
streams: func Records(s *runs.Store, run int) (Stream, error)
streams: func (s Stream) All() iter.Seq[string]
streams: func (s Stream) List(most int) []string
streams: func (s Stream) Count() int
streams: func (s Stream) Has(w string) bool
streams: func (s Stream) Minus(t Stream) Stream
streams: func (s Stream) Common(t Stream) Stream
streams: func (s Stream) From(w string) Stream
batch: type Former
batch: func New(s *runs.Store, buffer int) (*Former, error)
batch: func (f *Former) Add(words ...string) error
batch: func (f *Former) Finish() ([]int, error)
batch: func (f *Former) Drop()
merge: func Merge(s *runs.Store, fan int, list ...int) (int, error)
merge: func Sort(s *runs.Store, buffer, fan int, words ...string) (int, error)
aff: type File
aff: func Read(text string) (*File, api.Fault)
aff: func (f *File) Affixes() api.Affixes
aff: func (f *File) Class(flag api.Flag) (api.Class, bool)
aff: func (f *File) Flags(s string) (flags.Set, api.Errno)
aff: func (f *File) Write(fs ...api.Flag) (string, api.Errno)
dic: type Words
dic: func Read(f *aff.File, text string) (*Words, api.Fault)
dic: func (w *Words) Entries() []api.Entry
dic: func (w *Words) Find(word string) []int
dic: func (w *Words) Len() int
tables: type Tables
tables: func Read(affixes, words string) (*Tables, api.Fault)
tables: func (t *Tables) Rule(n int) (api.Rule, bool)
tables: func (t *Tables) Entry(n int) (api.Entry, bool)
tables: func (t *Tables) Suffixes(entry int) []int
tables: func (t *Tables) Prefixes(entry int) []int
tables: func (t *Tables) Seconds(rule int) []int
tables: func (t *Tables) Ends(rule int) bool
tables: func (t *Tables) Marked(entry, which int) bool
printer: func Aff(t *tables.Tables) (string, api.Errno)
printer: func Dic(t *tables.Tables) (string, api.Errno)
printer: func Same(t, u *tables.Tables) bool
rules: func Fits(r api.Rule, word string) bool
rules: func Apply(r api.Rule, word string) (string, bool)
rules: func Undo(r api.Rule, word string) (string, bool)
rules: func Chain(word string, list ...api.Rule) (string, bool)
rules: func Peel(word string, list ...api.Rule) (string, bool)
derive: func Each(t *tables.Tables, entry int) iter.Seq[api.Derived]
derive: func All(t *tables.Tables) iter.Seq[api.Derived]
derive: func List(t *tables.Tables, entry, most int) []api.Derived
derive: func Make(t *tables.Tables, d api.Derived) (string, bool)
derive: func Measure(t *tables.Tables, most int) (words, bytes int, ok bool)
derive: func Feed(t *tables.Tables, take func(words ...string) error, with, without []int) error
analyse: func Word(t *tables.Tables, w string, most int) []api.Derived
analyse: func Allowed(t *tables.Tables, w string) bool
analyse: func Forbidden(t *tables.Tables, w string) bool
analyse: func Accepts(t *tables.Tables, w string) bool
analyse: func Stems(t *tables.Tables, w string) []string
dawg: type Builder
dawg: func New(most int) (*Builder, api.Errno)
dawg: func (b *Builder) Add(words ...string) api.Errno
dawg: func (b *Builder) Frozen() int
dawg: func (b *Builder) Finish() ([]api.State, api.Errno)
dawg: func Build(words ...string) ([]api.State, api.Errno)
walk: func Shape(a []api.State) api.Errno
walk: func Accepts(a []api.State, w string) (bool, int, api.Errno)
walk: func Count(a []api.State) (int, api.Errno)
walk: func Rank(a []api.State, w string) (int, bool, api.Errno)
walk: func Nth(a []api.State, n int) (string, bool, api.Errno)
walk: func List(a []api.State, from string, most int) ([]string, api.Errno)
walk: func Minimize(a []api.State) ([]api.State, api.Errno)
walk: func Same(a, b []api.State) (bool, api.Errno)
image: func Encode(b api.Book) (string, api.Errno)
image: func Decode(s string) (api.Book, api.Errno)
book: func Compile(affixes, words string, lim api.Limits) (string, error)
book: type Checker
book: func Load(s string) (*Checker, error)
book: func (c *Checker) Check(w string) bool
book: func (c *Checker) Steps(w string) int
book: func (c *Checker) In(section int, w string) bool
book: func (c *Checker) Count(section int) (int, bool)
book: func (c *Checker) List(section int, from string, most int) []string
book: func (c *Checker) Book() api.Book
book: func (c *Checker) Image() string
cases: type Kind
cases: func Of(w string) Kind
cases: func Lower(w string) string
cases: func Upper(w string) string
cases: func Headed(w string) string
cases: func Forms(w string) []string
cases: func Check(c *book.Checker, w string) (string, bool)
near: func Distance(a, b string) int
near: func Within(a []api.State, w string, k, most int) ([]api.Near, api.Errno)
suggest: func For(c *book.Checker, w string, most int) []string
joined: func Check(c *book.Checker, w string) bool
joined: func Split(c *book.Checker, w string) []string
joined: func Count(c *book.Checker, w string) (int, bool)
report: func Tokens(text string) ([]api.Miss, api.Errno)
report: func Known(c *book.Checker, w string) bool
report: func Text(c *book.Checker, text string, workers int) ([]api.Miss, api.Errno)
delta: func Diff(a, b []api.State) ([]api.Change, api.Errno)
delta: func Patch(a []api.State, changes ...api.Change) ([]api.State, api.Errno)
delta: func Turn(changes ...api.Change) []api.Change
own: type List
own: func New(c *book.Checker) *List
own: func Open(c *book.Checker, text string) (*List, api.Fault)
own: func (l *List) Add(list ...string) api.Errno
own: func (l *List) Ban(list ...string) api.Errno
own: func (l *List) Undo() bool
own: func (l *List) Has(w string) int
own: func (l *List) Check(w string) bool
own: func (l *List) Len() int
own: func (l *List) Text() string
desk: type Desk
desk: func New() *Desk
desk: func (d *Desk) Do(line string) string
desk: func Run(script string) (string, api.Errno)
`
