package derive

import (
	"slices"

	"hornbook/api"
	"hornbook/rules"
	"hornbook/tables"
)

// none stands where a derivation has no rule.
const none = -1

// chain is told as the derivation that it is without a prefix rule, if it is one.
type chain struct {
	api.Derived
	// ends: what its rules make, or the entry's word if it has none, needs no further affix.
	ends bool
	// cross: all its rules have Cross.
	cross bool
}

// bare: the entry's chain of no rule; false, if there is no such entry.
func bare(t *tables.Tables, entry int) (chain, bool) {
	e, found := t.Entry(entry)
	if !found {
		return chain{}, false
	}
	d := api.Derived{Surface: e.Word, Entry: entry, First: none, Second: none, Prefix: none}
	return chain{Derived: d, ends: !t.Marked(entry, api.Need), cross: true}, true
}

// chainOf: the entry's chain with just these rules; false, if there is none.
func chainOf(t *tables.Tables, d api.Derived) (chain, bool) {
	c, found := bare(t, d.Entry)
	if !found || d.First == none {
		return c, found && d.Second == none
	}
	c, found = c.step(t, d.First)
	if !found || d.Second == none {
		return c, found
	}
	return c.step(t, d.Second)
}

// alone: the derivation without a prefix rule; false, if that is none.
func (c chain) alone() (api.Derived, bool) {
	if !c.ends {
		return api.Derived{}, false
	}
	return c.Derived, true
}

// prefixes: the rules that may be put ahead of it, if they fit and, where it has rules itself, have Cross.
func (c chain) prefixes(t *tables.Tables) []int {
	if c.First != none && !(c.ends && c.cross) {
		return nil
	}
	return t.Prefixes(c.Entry)
}

// behind: the derivation with one of those rules ahead; false, if that is none.
func (c chain) behind(t *tables.Tables, prefix int) (api.Derived, bool) {
	r, _ := t.Rule(prefix)
	if c.First != none && !r.Cross {
		return api.Derived{}, false
	}
	made, fits := rules.Apply(r, c.Surface)
	if !fits {
		return api.Derived{}, false
	}
	d := c.Derived
	d.Surface, d.Prefix = made, prefix
	return d, true
}

// headed: likewise with any number, which may be none of those rules.
func (c chain) headed(t *tables.Tables, prefix int) (api.Derived, bool) {
	if !slices.Contains(c.prefixes(t), prefix) {
		return api.Derived{}, false
	}
	return c.behind(t, prefix)
}

// nexts: the rules that may go on from it, if they fit.
func (c chain) nexts(t *tables.Tables) []int {
	switch {
	case c.First == none:
		return t.Suffixes(c.Entry)
	case c.Second == none:
		return t.Seconds(c.First)
	}
	return nil
}

// with: the chain that goes on by one of those rules; false, if that doesn't fit.
func (c chain) with(t *tables.Tables, rule int) (chain, bool) {
	r, _ := t.Rule(rule)
	made, fits := rules.Apply(r, c.Surface)
	if !fits {
		return chain{}, false
	}
	if c.First == none {
		c.First = rule
	} else {
		c.Second = rule
	}
	c.Surface, c.ends, c.cross = made, t.Ends(rule), c.cross && r.Cross
	return c, true
}

// step: likewise by any number, which may be none of those rules.
func (c chain) step(t *tables.Tables, rule int) (chain, bool) {
	if !slices.Contains(c.nexts(t), rule) {
		return chain{}, false
	}
	return c.with(t, rule)
}
