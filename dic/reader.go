package dic

import (
	"slices"

	"hornbook/aff"
	"hornbook/api"
	"hornbook/lines"
	"hornbook/words"
)

// reader reads a text into a dictionary. An error that it answers is at its line.
type reader struct {
	file *aff.File
	// specials are the file's: asking for them again for each entry would copy all that the file says.
	specials [api.Specials]api.Flag
	words    *Words
	// line is where a fault is told; it stays 0 up to the first row.
	line int
}

func newReader(f *aff.File) *reader {
	return &reader{
		file:     f,
		specials: f.Affixes().Specials,
		words:    &Words{numbers: map[string][]int{}},
	}
}

func (r *reader) read(text string) api.Errno {
	rows, e := lines.Rows(text)
	if e != api.OK {
		return e
	}
	behind := lineBehind(text)
	if len(rows) == 0 {
		r.line = behind
		return api.ErrCount
	}
	r.line = rows[0].Line
	count, e := readCount(rows[0].Fields)
	if e != api.OK {
		return e
	}
	if e := r.readEntries(rows[1:], count); e != api.OK {
		return e
	}
	if r.words.Len() < count {
		r.line = behind
		return api.ErrCount
	}
	return api.OK
}

// lineBehind: the number of the line that would stand behind the text's last one. The text must not be too long.
func lineBehind(text string) int {
	all, _ := lines.Split(text)
	return len(all) + 1
}

func readCount(fields []string) (int, api.Errno) {
	if len(fields) != 1 {
		return 0, api.ErrFields
	}
	return lines.Number(fields[0], api.MaxEntries)
}

func (r *reader) readEntries(rows []api.Row, count int) api.Errno {
	for _, row := range rows {
		r.line = row.Line
		// A row too many is that first of all, whatever stands in it.
		if r.words.Len() == count {
			return api.ErrCount
		}
		entry, e := r.entry(row.Fields)
		if e != api.OK {
			return e
		}
		r.words.add(entry)
	}
	return api.OK
}

func (r *reader) entry(fields []string) (api.Entry, api.Errno) {
	if len(fields) != 1 {
		return api.Entry{}, api.ErrFields
	}
	word, rest, cut, e := words.Read(fields[0])
	if e != api.OK {
		return api.Entry{}, e
	}
	if e := checkWord(word); e != api.OK {
		return api.Entry{}, e
	}
	if !cut {
		return api.Entry{Word: word}, api.OK
	}
	set, e := r.flags(rest)
	if e != api.OK {
		return api.Entry{}, e
	}
	return api.Entry{Word: word, Flags: set}, api.OK
}

// checkWord tells apart why a text is no word: its bytes come ahead of its length.
func checkWord(text string) api.Errno {
	if _, e := words.Letters(text); e != api.OK {
		return e
	}
	if len(text) > api.MaxWord {
		return api.ErrSize
	}
	return api.OK
}

// flags: those that s writes, all of them known to the file.
func (r *reader) flags(s string) ([]api.Flag, api.Errno) {
	set, e := r.file.Flags(s)
	if e != api.OK {
		return nil, e
	}
	if slices.ContainsFunc(set, r.isUnknown) {
		return nil, api.ErrUnknown
	}
	return set, api.OK
}

func (r *reader) isUnknown(flag api.Flag) bool {
	_, isClass := r.file.Class(flag)
	return !isClass && !slices.Contains(r.specials[:], flag)
}
