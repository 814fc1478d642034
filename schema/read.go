package schema

import (
	"strings"

	"canopy/api"
)

// reader reads a schema. Now is the sign ahead, at its place; open are how many parentheses are open. From an error on it reads nothing any more: now is stuck, and at stays where the error is.
type reader struct {
	s          string
	now        sign
	at, behind int
	open       int
	err        api.Errno
}

// begun stands ahead of the first sign.
func begun(s string) *reader {
	r := &reader{s: s}
	r.next()
	return r
}

// next goes on to the next sign.
func (r *reader) next() { r.now, r.at, r.behind = signAt(r.s, r.behind) }

// fail ends the reading, if nothing has ended it yet.
func (r *reader) fail(err api.Errno) {
	if r.err == api.OK {
		r.err = err
		r.now = sign{kind: stuck}
	}
}

// took goes on behind the sign s, if it is ahead, and tells whether it was.
func (r *reader) took(s sign) bool {
	if r.now != s {
		return false
	}
	r.next()
	return true
}

// take goes on behind the sign s, as nothing else may be ahead.
func (r *reader) take(s sign) {
	if !r.took(s) {
		r.fail(api.BadText)
	}
}

// schema reads all.
func (r *reader) schema() api.Schema {
	r.take(row(wordRoot))
	s := api.Schema{Root: r.name()}
	r.take(sign{kind: ';'})
	for r.err == api.OK && r.now != (sign{kind: end}) {
		s.L = append(s.L, r.element(s.L))
	}
	return s
}

// name reads a name.
func (r *reader) name() string {
	if !isName(r.now) {
		r.fail(api.BadText)
		return ""
	}
	name := strings.Clone(r.now.text) // or a few letters would keep the whole text
	r.next()
	return name
}

// element reads one, behind those ahead of it.
func (r *reader) element(ahead []api.Element) api.Element {
	r.take(row(wordElement))
	e := api.Element{Name: r.fresh(ahead)}
	r.take(sign{kind: '='})
	e.M = r.or()
	r.take(sign{kind: ';'})
	return e
}

// fresh reads the name of an element, which none ahead has.
func (r *reader) fresh(ahead []api.Element) string {
	switch {
	case !isName(r.now):
		r.fail(api.BadText)
	case named(ahead, r.now.text):
		r.fail(api.Twice)
	case len(ahead) == api.MaxRows:
		r.fail(api.TooLong)
	}
	return r.name()
}

// or reads seqs.
func (r *reader) or() api.Model {
	l := []api.Model{r.seq()}
	for r.took(sign{kind: '|'}) {
		l = append(l, r.seq())
	}
	return joined(api.MOr, l)
}

// seq reads reps.
func (r *reader) seq() api.Model {
	l := []api.Model{r.rep()}
	for r.took(sign{kind: ','}) {
		l = append(l, r.rep())
	}
	return joined(api.MSeq, l)
}

// joined are the parts l as one; one part is that itself.
func joined(kind int, l []api.Model) api.Model {
	if len(l) == 1 {
		return l[0]
	}
	return api.Model{Kind: kind, L: l}
}

// rep reads an atom, and how often it may be.
func (r *reader) rep() api.Model {
	m := r.atom()
	if i := strings.IndexRune(often, r.now.kind); i >= 0 {
		r.next()
		return api.Model{Kind: api.MStar + i, L: []api.Model{m}}
	}
	return m
}

// atom reads an atom.
func (r *reader) atom() api.Model {
	switch {
	case r.now == sign{kind: '('}:
		return r.inside()
	case r.took(row(wordEmpty)):
		return api.Model{Kind: api.MVoid}
	case r.took(row(wordAny)):
		return api.Model{Kind: api.MAny}
	case r.took(row(wordText)):
		return api.Model{Kind: api.MText}
	}
	return api.Model{Kind: api.MName, Name: r.name()}
}

// inside reads parentheses, and what is in them.
func (r *reader) inside() api.Model {
	if r.open == api.MaxDeep {
		r.fail(api.TooDeep)
		return api.Model{}
	}
	r.open++
	r.next()
	m := r.or()
	r.take(sign{kind: ')'})
	r.open--
	return m
}
