package aff

import (
	"slices"

	"hornbook/api"
	"hornbook/cond"
	"hornbook/flags"
	"hornbook/words"
)

// groupRow: the fields of the next row of a group, which must begin as its heading does.
func (r *reader) groupRow(beginning ...string) []string {
	if len(r.rows) == 0 {
		r.line = r.behind
		r.leaveWith(api.ErrCount)
	}
	row := r.nextRow()
	begins := len(row) >= len(beginning) && slices.Equal(row[:len(beginning)], beginning)
	r.leaveIf(!begins, api.ErrCount)
	return row
}

func (r *reader) readReps(heading []string, _ int) {
	for range r.number(heading[1], api.MaxReps) {
		row := r.groupRow(heading[0])
		r.leaveIf(len(row) != 3, api.ErrFields)
		from := r.piece(row[1])
		r.said.Reps = append(r.said.Reps, api.Rep{From: from, To: r.pieceOrNone(row[2])})
	}
}

func (r *reader) readAliases(heading []string, _ int) {
	r.leaveIf(len(r.said.Classes) > 0, api.ErrOrder)
	for range r.number(heading[1], api.MaxAliases) {
		row := r.groupRow(heading[0])
		r.leaveIf(len(row) != 2, api.ErrFields)
		alias, e := flags.Read(r.said.Kind, row[1])
		r.leaveWith(e)
		r.said.Aliases = append(r.said.Aliases, alias)
	}
}

func (r *reader) readClass(heading []string, kind int) {
	class := api.Class{Kind: kind, Flag: r.newFlag(heading[1]), First: len(r.said.Rules)}
	r.leaveIf(heading[2] != "Y" && heading[2] != "N", api.ErrValue)
	class.Cross = heading[2] == "Y"
	class.Count = r.number(heading[3], api.MaxRules)
	// Each class ahead has as many rules as it said, so the rules that there are tell all counts.
	r.leaveIf(class.First+class.Count > api.MaxRules, api.ErrRules)
	r.places[class.Flag] = len(r.said.Classes)
	r.said.Classes = append(r.said.Classes, class)
	for range class.Count {
		row := r.groupRow(heading[0], heading[1])
		r.said.Rules = append(r.said.Rules, r.rule(class, row))
		r.ruleLines = append(r.ruleLines, r.line)
	}
}

func (r *reader) rule(class api.Class, row []string) api.Rule {
	r.leaveIf(len(row) != 4 && len(row) != 5, api.ErrFields)
	rule := api.Rule{Kind: class.Kind, Flag: class.Flag, Cross: class.Cross, Cond: "."}
	rule.Strip = r.pieceOrNone(row[2])
	rule.Add, rule.Next = r.added(class.Kind, row[3])
	if len(row) == 5 {
		rule.Cond = r.condition(row[4])
	}
	return rule
}

// added: what a rule adds, and the flags that go on from it.
func (r *reader) added(kind int, field string) (string, flags.Set) {
	add, rest, cut, e := words.Read(field)
	r.leaveWith(e)
	if add == "0" {
		add = ""
	} else {
		r.checkAffix(add)
	}
	if !cut {
		return add, nil
	}
	r.leaveIf(kind == api.Prefix, api.ErrNext)
	next, e := r.Flags(rest)
	r.leaveWith(e)
	return add, next
}

// condition: the one text of the condition that the field writes.
func (r *reader) condition(field string) string {
	r.checkBytes(field)
	pattern, e := cond.Read(field)
	r.leaveWith(e)
	return pattern.Show()
}

// piece: the text of 1 to MaxAffix word bytes that the field writes.
func (r *reader) piece(field string) string {
	text, _, cut, e := words.Read(field)
	r.leaveWith(e)
	r.leaveIf(cut, api.ErrValue)
	r.checkAffix(text)
	return text
}

func (r *reader) pieceOrNone(field string) string {
	if field == "0" {
		return ""
	}
	return r.piece(field)
}

func (r *reader) checkAffix(text string) {
	r.checkBytes(text)
	r.leaveIf(len(text) > api.MaxAffix, api.ErrSize)
}

// checkNexts: of the flags that go on from a rule, each must be NEEDAFFIX's or that of an SFX,
// which may stand behind the rule.
func (r *reader) checkNexts() {
	for i, rule := range r.said.Rules {
		r.line = r.ruleLines[i]
		r.leaveIf(slices.ContainsFunc(rule.Next, r.cannotGoOn), api.ErrNext)
	}
}

func (r *reader) cannotGoOn(flag api.Flag) bool {
	class, isClass := r.Class(flag)
	isSuffix := isClass && class.Kind == api.Suffix
	return !isSuffix && flag != r.said.Specials[api.Need]
}
