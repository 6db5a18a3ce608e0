package aff_test

import (
	"fmt"
	"math/rand/v2"
	"slices"
	"strings"
	"testing"

	"hornbook/aff"
	"hornbook/api"
	"hornbook/cond"
	"hornbook/flags"
	"hornbook/words"
)

// Here Read is held against a plain second writing of the chapter's words: it
// looks at one row at a time, knows how many rows of a group are still to come,
// and hands errors on as values. It takes the layers below as they are.

type model struct {
	api.Affixes
	keys []string // the headings' keywords, in their order
	left int      // rows that the group still has
	head []string // the group's heading
	at   []int    // the lines of the rules
}

func modelRead(text string) (api.Affixes, api.Fault) {
	m := model{Affixes: api.Affixes{Kind: api.Short, Least: 3}}
	list := strings.SplitAfter(strings.TrimPrefix(text, "\xef\xbb\xbf"), "\n")
	if list[len(list)-1] == "" {
		list = list[:len(list)-1]
	}
	refused := func(line int, e api.Errno) (api.Affixes, api.Fault) {
		return api.Affixes{}, api.Fault{File: api.AffFile, Line: line, Code: e}
	}
	if len(text) > 65536 {
		return refused(0, api.ErrLong)
	}
	for n, line := range list {
		line = strings.TrimSuffix(strings.TrimSuffix(line, "\n"), "\r")
		fields := strings.FieldsFunc(line, func(r rune) bool { return r == ' ' || r == '\t' })
		if i := slices.IndexFunc(fields, func(f string) bool { return f[0] == '#' }); i >= 0 {
			fields = fields[:i]
		}
		if len(fields) == 0 {
			continue
		}
		if e := m.row(fields, n+1); e != api.OK {
			return refused(n+1, e)
		}
	}
	if m.left > 0 {
		return refused(len(list)+1, api.ErrCount)
	}
	for i, rule := range m.Rules {
		for _, flag := range rule.Next {
			goesOn := flag == m.Specials[api.Need]
			for _, c := range m.Classes {
				goesOn = goesOn || c.Kind == api.Suffix && c.Flag == flag
			}
			if !goesOn {
				return refused(m.at[i], api.ErrNext)
			}
		}
	}
	return m.Affixes, api.Fault{}
}

func (m *model) row(row []string, line int) api.Errno {
	if m.left == 0 {
		return m.heading(row)
	}
	m.left--
	if row[0] != m.head[0] {
		return api.ErrCount
	}
	switch row[0] {
	case "REP":
		return m.rep(row)
	case "AF":
		if len(row) != 2 {
			return api.ErrFields
		}
		set, e := flags.Read(m.Kind, row[1])
		m.Aliases = append(m.Aliases, set)
		return e
	}
	if len(row) < 2 || row[1] != m.head[1] {
		return api.ErrCount
	}
	m.at = append(m.at, line)
	return m.rule(row)
}

func (m *model) heading(row []string) api.Errno {
	wanted := 2
	switch row[0] {
	default:
		return api.ErrKey
	case "PFX", "SFX":
		wanted = 4
	case "FLAG", "SET", "TRY", "NEEDAFFIX", "FORBIDDENWORD", "KEEPCASE", "COMPOUNDFLAG", "NOSUGGEST", "COMPOUNDMIN", "REP", "AF":
	}
	if len(row) != wanted {
		return api.ErrFields
	}
	if wanted == 2 && slices.Contains(m.keys, row[0]) {
		return api.ErrTwice
	}
	ahead := m.keys
	m.keys = append(m.keys, row[0])
	m.head = row
	switch row[0] {
	case "FLAG":
		for _, key := range ahead {
			if key != "SET" && key != "TRY" && key != "COMPOUNDMIN" && key != "REP" {
				return api.ErrOrder
			}
		}
		m.Kind = 1 + slices.Index([]string{"short", "long", "num"}, row[1])
		if m.Kind == 0 {
			return api.ErrValue
		}
	case "SET":
		m.Charset = row[1]
		if hasOther(row[1]) {
			return api.ErrWord
		}
	case "TRY":
		if hasOther(row[1]) {
			return api.ErrWord
		}
		for i := range len(row[1]) {
			if letter := row[1][i : i+1]; !strings.Contains(row[1][:i], letter) {
				m.Try += letter
			}
		}
	case "COMPOUNDMIN":
		var e api.Errno
		m.Least, e = countUp(1, 64, row[1])
		return e
	case "REP", "AF":
		most := 256
		if row[0] == "AF" {
			most = 1024
			if slices.Contains(ahead, "PFX") || slices.Contains(ahead, "SFX") {
				return api.ErrOrder
			}
		}
		var e api.Errno
		m.left, e = countUp(0, most, row[1])
		return e
	default:
		return m.flagHeading(row)
	}
	return api.OK
}

// flagHeading: of a special flag, or of a class.
func (m *model) flagHeading(row []string) api.Errno {
	flag, e := flags.One(m.Kind, row[1])
	if e != api.OK {
		return e
	}
	for _, special := range m.Specials {
		if special == flag {
			return api.ErrTaken
		}
	}
	for _, c := range m.Classes {
		if c.Flag == flag {
			return api.ErrTaken
		}
	}
	if len(row) == 2 {
		m.Specials[slices.Index([]string{"NEEDAFFIX", "FORBIDDENWORD", "KEEPCASE", "COMPOUNDFLAG", "NOSUGGEST"}, row[0])] = flag
		return api.OK
	}
	if !strings.Contains(" Y N ", " "+row[2]+" ") {
		return api.ErrValue
	}
	m.left, e = countUp(0, 1024, row[3])
	if e != api.OK {
		return e
	}
	c := api.Class{Flag: flag, Kind: strings.Index("-PS", row[0][:1]), Cross: row[2] == "Y", Count: m.left}
	for _, earlier := range m.Classes {
		c.First += earlier.Count
	}
	m.Classes = append(m.Classes, c)
	if c.First+c.Count > 1024 {
		return api.ErrRules
	}
	return api.OK
}

func (m *model) rep(row []string) api.Errno {
	if len(row) != 3 {
		return api.ErrFields
	}
	from, e := modelPiece(row[1])
	if e != api.OK {
		return e
	}
	to := ""
	if row[2] != "0" {
		to, e = modelPiece(row[2])
	}
	m.Reps = append(m.Reps, api.Rep{From: from, To: to})
	return e
}

func (m *model) rule(row []string) api.Errno {
	if len(row) < 4 || len(row) > 5 {
		return api.ErrFields
	}
	c := m.Classes[len(m.Classes)-1]
	rule := api.Rule{Kind: c.Kind, Flag: c.Flag, Cross: c.Cross, Cond: "."}
	var e api.Errno
	if row[2] != "0" {
		if rule.Strip, e = modelPiece(row[2]); e != api.OK {
			return e
		}
	}
	add, rest, cut, e := words.Read(row[3])
	switch {
	case e != api.OK:
		return e
	case add == "0":
		add = ""
	case add == "" || hasOther(add):
		return api.ErrWord
	case len(add) > 32:
		return api.ErrSize
	}
	rule.Add = add
	if cut {
		if row[0] == "PFX" {
			return api.ErrNext
		}
		if rule.Next, e = m.set(rest); e != api.OK {
			return e
		}
	}
	if len(row) == 5 {
		if hasOther(row[4]) {
			return api.ErrWord
		}
		p, e := cond.Read(row[4])
		if e != api.OK {
			return e
		}
		rule.Cond = p.Show()
	}
	m.Rules = append(m.Rules, rule)
	return api.OK
}

func (m *model) set(s string) (flags.Set, api.Errno) {
	if len(m.Aliases) == 0 {
		return flags.Read(m.Kind, s)
	}
	for i, alias := range m.Aliases {
		if fmt.Sprint(i+1) == s {
			return alias, api.OK
		}
	}
	return nil, api.ErrNumber
}

func modelPiece(field string) (string, api.Errno) {
	text, _, cut, e := words.Read(field)
	switch {
	case e != api.OK:
		return "", e
	case cut:
		return "", api.ErrValue
	case text == "" || hasOther(text):
		return "", api.ErrWord
	case len(text) > 32:
		return "", api.ErrSize
	}
	return text, api.OK
}

// hasOther: has it a byte that is no word byte?
func hasOther(text string) bool {
	return slices.ContainsFunc([]byte(text), func(b byte) bool { return b <= 32 || b == 127 })
}

// countUp: which number from the least to the most is written so?
func countUp(least, most int, s string) (int, api.Errno) {
	for n := least; n <= most; n++ {
		if fmt.Sprint(n) == s {
			return n, api.OK
		}
	}
	return 0, api.ErrNumber
}

func checkText(t *testing.T, text string) {
	t.Helper()
	want, fault := modelRead(text)
	f, got := aff.Read(text)
	if got != fault || (f == nil) != (fault != api.Fault{}) || !same(f.Affixes(), want) {
		t.Fatalf("Read(%.300q) = %s, %v; want %s, %v", text, shown(f.Affixes()), got, shown(want), fault)
	}
	for _, flag := range []api.Flag{0, 7, 300, 'A', 'B', 'N', 'A' * 257} {
		place := slices.IndexFunc(want.Classes, func(c api.Class) bool { return c.Flag == flag })
		c, ok := f.Class(flag)
		if ok != (place >= 0) || ok && c != want.Classes[place] {
			t.Fatalf("Class(%d) of %.300q = %v, %v; want %v", flag, text, c, ok, want.Classes)
		}
	}
}

// vocabulary: rows of which many go together.
var vocabulary = []string{
	"", "# x", "FLAG", "FLAG num", "FLAG long", "FLAG x", "SET a", "TRY noon", "NEEDAFFIX B", "NEEDAFFIX 7", "KEEPCASE A", "COMPOUNDMIN 0", "COMPOUNDMIN 9",
	"REP 0", "REP 1", "REP 2", "REP a b", "REP 0 0", "REP a/ b", "AF 0", "AF 1", "AF 2", "AF A", "AF BA", "AF 7,300", "AF x y",
	"SFX A Y 0", "SFX A N 1", "SFX A Y 2", "SFX A 0 s", "SFX A y ies/B [aa]", "SFX A 0 s/A", "SFX A 0 s/1", "SFX A 0 s [", "SFX B Y 0", "SFX B N 1", "SFX B 0 0/A .",
	"SFX 7 Y 1", "SFX 7 0 s/1", "SFX 7 0 s/7", "SFX 300 N 0", "PFX A Y 1", "PFX A 0 s", "PFX A 0 s/A", "PFX B N 1", "PFX B a 0 ..", "wrong", "SFX A",
}

func TestFewRowsAgainstTheModel(t *testing.T) { // P11.1 to P11.3
	for _, a := range vocabulary {
		checkText(t, a)
		for _, b := range vocabulary {
			checkText(t, rows(a, b))
			for _, c := range vocabulary {
				checkText(t, rows(a, b, c))
			}
		}
	}
}

func TestManyRowsAgainstTheModel(t *testing.T) { // P11.1 to P11.3
	dice := rand.New(rand.NewPCG(11, 11))
	taken := 0
	for range 60000 {
		var list []string
		for range 4 + dice.IntN(12) {
			// A row that is at fault at once is mostly left out, so that the text goes on for long.
			row := vocabulary[dice.IntN(len(vocabulary))]
			_, fault := modelRead(rows(append(slices.Clone(list), row)...))
			if fault.Line == 0 || fault.Line > len(list)+1 || fault.Code == api.ErrNext || dice.IntN(50) == 0 {
				list = append(list, row)
			}
		}
		checkText(t, rows(list...))
		if _, fault := modelRead(rows(list...)); fault == (api.Fault{}) {
			taken++
		}
	}
	if taken < 5000 {
		t.Errorf("only %d texts were taken", taken)
	}
}

// changed: the files that the changes begin with.
func changed() [][]string {
	return [][]string{
		rich,
		{"FLAG long", "NEEDAFFIX nn", "REP 2", `REP \#a \/`, "REP b 0", "SFX AA Y 2", "SFX AA y ies/nnBB [^ab]y", "SFX AA 0 s", "SFX BB N 1", "SFX BB 0 0/AA .", "PFX CC Y 1", `PFX CC \\ x ..`},
		{"AF 2", "AF AB", "AF B", "KEEPCASE K", "PFX U N 0", "SFX A Y 1", "SFX A 0 s/1 [^y]", "SFX B Y 1", "SFX B e ing/2"},
	}
}

func TestEachByteChangedAgainstTheModel(t *testing.T) { // P11.1 to P11.3
	for _, list := range changed() {
		text := rows(list...)
		for i := range len(text) {
			checkText(t, text[:i])
			checkText(t, text[:i]+text[i+1:])
			for _, other := range []string{" ", "\n", "0", "1", "7", "A", "Y", "/", "\\", "#", ",", "[", "]", "^", "\x7f", "\r", "\xff", "xxxxxxxxxxxxxxxxxxxxxxxxxxxxxxxxx"} {
				checkText(t, text[:i]+other+text[i+1:])
				checkText(t, text[:i]+other+text[i:])
			}
		}
	}
}

func TestEachRowMovedAgainstTheModel(t *testing.T) { // P11.1 to P11.3
	for _, list := range changed() {
		for i := range list {
			without := slices.Delete(slices.Clone(list), i, i+1)
			checkText(t, rows(without...))
			for j := range list {
				checkText(t, rows(slices.Insert(slices.Clone(without), min(j, len(without)), list[i])...))
				checkText(t, rows(slices.Insert(slices.Clone(list), j, list[i])...))
				swapped := slices.Clone(list)
				swapped[i], swapped[j] = swapped[j], swapped[i]
				checkText(t, rows(swapped...))
			}
			for _, row := range vocabulary {
				checkText(t, rows(slices.Insert(slices.Clone(list), i, row)...))
				checkText(t, rows(slices.Insert(slices.Clone(without), i, row)...))
			}
		}
	}
}

func TestEachFieldExchangedAgainstTheModel(t *testing.T) { // P11.1 to P11.3
	for _, list := range changed() {
		all := strings.Fields(rows(list...))
		for i, row := range list {
			fields := strings.Fields(row)
			for j := range fields {
				for _, other := range all {
					exchanged := slices.Clone(fields)
					exchanged[j] = other
					text := slices.Clone(list)
					text[i] = strings.Join(exchanged, " ")
					checkText(t, rows(text...))
				}
			}
		}
	}
}

func TestFlagsAndWriteAgainstTheModel(t *testing.T) { // P11.4, P11.5
	for _, list := range [][]string{
		{"FLAG short"}, {"FLAG long"}, {"FLAG num"}, {"AF 0"}, {"AF 3", "AF 12", "AF 2", "AF 21"}, {"FLAG long", "AF 2", "AF 12", "AF 2112"}, {"FLAG num", "AF 4", "AF 1,2", "AF 2", "AF 2,1,2", "AF 12"},
	} {
		f := read(t, list...)
		m := model{Affixes: f.Affixes()}
		for _, s := range textsOver("012,", 5) {
			want, e := m.set(s)
			if e == api.OK {
				expectFlags(t, f, s, want...)
			} else {
				expectNoFlags(t, f, s, e)
			}
		}
		for _, s := range textsOver("\x00\x01\x02\x0c", 4) {
			checkWrite(t, f, m, s, 1)
			checkWrite(t, f, m, strings.ReplaceAll(s, "\x0c", "12"), 1)
			checkWrite(t, f, m, s, '1')
		}
	}
}

// checkWrite: each byte of s tells a flag.
func checkWrite(t *testing.T, f *aff.File, m model, s string, times int) {
	t.Helper()
	var fs []api.Flag
	for i := range len(s) {
		fs = append(fs, api.Flag(int(s[i])*times))
	}
	if len(m.Aliases) == 0 {
		if want, e := flags.Show(m.Kind, fs...); e == api.OK {
			expectWritten(t, f, want, fs...)
		} else {
			expectNotWritten(t, f, e, fs...)
		}
		return
	}
	for i, alias := range m.Aliases {
		if flags.Set(alias).Equal(fs) {
			expectWritten(t, f, fmt.Sprint(i+1), fs...)
			return
		}
	}
	expectNotWritten(t, f, api.ErrFlag, fs...)
}

// textsOver: all texts of at most that many bytes over the alphabet.
func textsOver(alphabet string, most int) []string {
	all := []string{""}
	for from := 0; most > 0; most-- {
		till := len(all)
		for ; from < till; from++ {
			for i := range len(alphabet) {
				all = append(all, all[from]+alphabet[i:i+1])
			}
		}
	}
	return all
}
