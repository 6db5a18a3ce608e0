package aff

import (
	"slices"
	"strings"

	"hornbook/api"
	"hornbook/flags"
	"hornbook/lines"
	"hornbook/words"
)

// leastWithout is Least where no heading says another one.
const leastWithout = 3

// reader reads a text into the file that it embeds. A row at fault leaves by panic.
type reader struct {
	*File
	// rows are those that are still to be read.
	rows []api.Row
	// line is where a fault is told; it stays 0 up to the first row.
	line int
	// behind is the line that is told where a group wants a row and there is none left.
	behind int
	// headings tells how many there were of each keyword.
	headings map[string]int
	// ruleLines are the lines of the rules: what may go on from them is asked behind all rows.
	ruleLines []int
}

// keyword is what may stand first in a heading.
type keyword struct {
	fields int
	// again: may there be several such headings?
	again bool
	read  func(r *reader, heading []string, which int)
	// which is the special flag's place, or the kind of the class; elsewhere it tells nothing.
	which int
}

func keywords() map[string]keyword {
	return map[string]keyword{
		"FLAG":          {fields: 2, read: (*reader).readKind},
		"SET":           {fields: 2, read: (*reader).readCharset},
		"TRY":           {fields: 2, read: (*reader).readTry},
		"NEEDAFFIX":     {fields: 2, read: (*reader).readSpecial, which: api.Need},
		"FORBIDDENWORD": {fields: 2, read: (*reader).readSpecial, which: api.Forbid},
		"KEEPCASE":      {fields: 2, read: (*reader).readSpecial, which: api.Keep},
		"COMPOUNDFLAG":  {fields: 2, read: (*reader).readSpecial, which: api.Part},
		"NOSUGGEST":     {fields: 2, read: (*reader).readSpecial, which: api.Quiet},
		"COMPOUNDMIN":   {fields: 2, read: (*reader).readLeast},
		"REP":           {fields: 2, read: (*reader).readReps},
		"AF":            {fields: 2, read: (*reader).readAliases},
		"PFX":           {fields: 4, again: true, read: (*reader).readClass, which: api.Prefix},
		"SFX":           {fields: 4, again: true, read: (*reader).readClass, which: api.Suffix},
	}
}

func newReader() *reader {
	return &reader{
		File: &File{
			said:   api.Affixes{Kind: api.Short, Least: leastWithout},
			places: map[api.Flag]int{},
		},
		headings: map[string]int{},
	}
}

// read: the first fault of the text; the zero Fault, if there is none.
func (r *reader) read(text string) (fault api.Fault) {
	defer func() {
		switch left := recover().(type) {
		case nil:
		case api.Fault:
			fault = left
		default:
			// No row leaves so: a mistake of the program must not pass for a file that was read.
			panic(left)
		}
	}()
	r.cut(text)
	table := keywords()
	for len(r.rows) > 0 {
		r.readHeading(table)
	}
	r.checkNexts()
	return api.Fault{}
}

func (r *reader) cut(text string) {
	all, e := lines.Split(text)
	r.leaveWith(e)
	r.rows, e = lines.Rows(text)
	r.leaveWith(e)
	r.behind = len(all) + 1
}

// leaveWith: if e is an error, the line that is read is at fault.
func (r *reader) leaveWith(e api.Errno) {
	if e != api.OK {
		panic(api.Fault{File: api.AffFile, Line: r.line, Code: e})
	}
}

func (r *reader) leaveIf(wrong bool, e api.Errno) {
	if wrong {
		r.leaveWith(e)
	}
}

// nextRow: the fields of the first row that is still to be read; there must be one.
func (r *reader) nextRow() []string {
	row := r.rows[0]
	r.rows = r.rows[1:]
	r.line = row.Line
	return row.Fields
}

func (r *reader) readHeading(table map[string]keyword) {
	heading := r.nextRow()
	name := heading[0]
	word, known := table[name]
	r.leaveIf(!known, api.ErrKey)
	r.leaveIf(len(heading) != word.fields, api.ErrFields)
	r.leaveIf(!word.again && r.stood(name), api.ErrTwice)
	word.read(r, heading, word.which)
	r.headings[name]++
}

// stood: was there a heading with this keyword ahead?
func (r *reader) stood(name string) bool {
	return r.headings[name] > 0
}

func (r *reader) readKind(heading []string, _ int) {
	special := r.said.Specials != [api.Specials]api.Flag{}
	r.leaveIf(special || r.stood("AF") || len(r.said.Classes) > 0, api.ErrOrder)
	switch heading[1] {
	case "short":
		r.said.Kind = api.Short
	case "long":
		r.said.Kind = api.Long
	case "num":
		r.said.Kind = api.Numbers
	default:
		r.leaveWith(api.ErrValue)
	}
}

func (r *reader) readCharset(heading []string, _ int) {
	r.checkBytes(heading[1])
	// A piece of the text would hold on to the whole of it.
	r.said.Charset = strings.Clone(heading[1])
}

func (r *reader) readTry(heading []string, _ int) {
	letters, e := words.Letters(heading[1])
	r.leaveWith(e)
	r.said.Try = letters
}

func (r *reader) readSpecial(heading []string, which int) {
	r.said.Specials[which] = r.newFlag(heading[1])
}

func (r *reader) readLeast(heading []string, _ int) {
	least := r.number(heading[1], api.MaxWord)
	r.leaveIf(least == 0, api.ErrNumber)
	r.said.Least = least
}

// newFlag: the flag that the field writes; it must not be defined yet.
func (r *reader) newFlag(field string) api.Flag {
	flag, e := flags.One(r.said.Kind, field)
	r.leaveWith(e)
	_, isClass := r.Class(flag)
	r.leaveIf(isClass || slices.Contains(r.said.Specials[:], flag), api.ErrTaken)
	return flag
}

func (r *reader) number(field string, most int) int {
	n, e := lines.Number(field, most)
	r.leaveWith(e)
	return n
}

// checkBytes: the text must not be empty, and must have word bytes alone.
func (r *reader) checkBytes(text string) {
	_, e := words.Letters(text)
	r.leaveWith(e)
}
