package printer

import (
	"strings"

	"hornbook/api"
	"hornbook/lines"
	"hornbook/words"
)

// part is one of those that a file is made of. One that says nothing writes no row.
type part interface {
	writeTo(s *sheet)
}

type (
	flagKind int
	charset  string
	letters  string
	specials [api.Specials]api.Flag
	least    int
	reps     []api.Rep
	aliases  [][]api.Flag
	class    api.Class
	rule     api.Rule
	count    int
	entry    api.Entry
)

// affixParts: the parts of an affix file, in the order of their rows.
func affixParts(said api.Affixes) []part {
	parts := []part{
		flagKind(said.Kind), charset(said.Charset), letters(said.Try), specials(said.Specials),
		least(said.Least), reps(said.Reps), aliases(said.Aliases),
	}
	for _, c := range said.Classes {
		parts = append(parts, class(c))
		for _, r := range said.Rules[c.First : c.First+c.Count] {
			parts = append(parts, rule(r))
		}
	}
	return parts
}

// dictionaryParts: likewise, of a dictionary.
func dictionaryParts(entries []api.Entry) []part {
	parts := []part{count(len(entries))}
	for _, e := range entries {
		parts = append(parts, entry(e))
	}
	return parts
}

func (k flagKind) writeTo(s *sheet) {
	switch k {
	case api.Short:
		s.row("FLAG", "short")
	case api.Long:
		s.row("FLAG", "long")
	case api.Numbers:
		s.row("FLAG", "num")
	default:
		s.note("", api.ErrKind)
	}
}

func (c charset) writeTo(s *sheet) {
	if c != "" {
		s.row("SET", string(c))
	}
}

func (l letters) writeTo(s *sheet) {
	if l != "" {
		s.row("TRY", string(l))
	}
}

func (all specials) writeTo(s *sheet) {
	keywords := [api.Specials]string{
		api.Need:   "NEEDAFFIX",
		api.Forbid: "FORBIDDENWORD",
		api.Keep:   "KEEPCASE",
		api.Part:   "COMPOUNDFLAG",
		api.Quiet:  "NOSUGGEST",
	}
	for which, flag := range all {
		if flag != 0 {
			s.row(keywords[which], s.set(flag))
		}
	}
}

func (n least) writeTo(s *sheet) {
	s.row("COMPOUNDMIN", lines.Decimal(int(n)))
}

func (list reps) writeTo(s *sheet) {
	if len(list) == 0 {
		return
	}
	s.row("REP", lines.Decimal(len(list)))
	for _, rep := range list {
		// Only To may be empty: where From is the text 0, that is what it writes.
		s.row("REP", words.Write(rep.From), wordOrNone(rep.To))
	}
}

func (list aliases) writeTo(s *sheet) {
	if len(list) == 0 {
		return
	}
	s.row("AF", lines.Decimal(len(list)))
	for _, alias := range list {
		s.row("AF", s.set(alias...))
	}
}

func (c class) writeTo(s *sheet) {
	cross := "N"
	if c.Cross {
		cross = "Y"
	}
	s.row(keyword(c.Kind), s.set(c.Flag), cross, lines.Decimal(c.Count))
}

func (r rule) writeTo(s *sheet) {
	add := s.behindSlash(wordOrNone(r.Add), r.Next)
	s.row(keyword(r.Kind), s.set(r.Flag), wordOrNone(r.Strip), add, condition(r.Cond))
}

func keyword(kind int) string {
	if kind == api.Prefix {
		return "PFX"
	}
	return "SFX"
}

// condition: a field that began with the number sign would be a remark.
func condition(text string) string {
	if rest, begins := strings.CutPrefix(text, "#"); begins {
		return "[#]" + rest
	}
	return text
}

func (n count) writeTo(s *sheet) {
	s.row(lines.Decimal(int(n)))
}

func (e entry) writeTo(s *sheet) {
	s.row(s.behindSlash(words.Write(e.Word), e.Flags))
}
