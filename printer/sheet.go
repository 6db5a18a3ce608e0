package printer

import (
	"hornbook/api"
	"hornbook/flags"
	"hornbook/lines"
	"hornbook/tables"
	"hornbook/words"
)

// none is how an empty text stands in a field, which can't be empty itself.
const none = "0"

// sheet is a file that is being written.
type sheet struct {
	tables *tables.Tables
	// kind is how an affix file writes its flags.
	kind int
	rows [][]string
	// wrong is the first error of the layers below. Tables that Read made have none.
	wrong api.Errno
}

// write: the text of these parts.
func (s *sheet) write(parts ...part) (string, api.Errno) {
	for _, p := range parts {
		p.writeTo(s)
	}
	if s.wrong != api.OK {
		return "", s.wrong
	}
	return lines.Show(s.rows...)
}

func (s *sheet) row(fields ...string) {
	s.rows = append(s.rows, fields)
}

// set: the text of flags that stand for themselves, whether there are aliases or not.
func (s *sheet) set(fs ...api.Flag) string {
	return s.note(flags.Show(s.kind, fs...))
}

// behindSlash: the field with the flags that go with it, if there are any.
func (s *sheet) behindSlash(field string, fs []api.Flag) string {
	if len(fs) == 0 {
		return field
	}
	return field + "/" + s.note(s.tables.Write(fs...))
}

// note keeps the first error, so that no part has to hand it on.
func (s *sheet) note(text string, e api.Errno) string {
	if s.wrong == api.OK {
		s.wrong = e
	}
	return text
}

func wordOrNone(text string) string {
	if text == "" {
		return none
	}
	return words.Write(text)
}
