package expr

import (
	"canopy/api"
)

// maxOpen is in how many parentheses and nests one more may be. It is more than an expression has of levels, as parentheses may stand where none must.
const maxOpen = 2 * api.MaxDeep

// group is what stands between what opens and what shuts it, as far as it is read.
type group struct {
	by   sign       // what opened it
	cats []api.Expr // those that a bar ended
	reps []api.Expr // those behind the last bar
}

// reader reads an expression; groups are those that are open, the outermost one that of the whole text.
type reader struct {
	l      []api.Sym
	s      string
	now    sign
	groups []group
	whole  api.Expr // once the end is read
}

// begun stands ahead of the first sign.
func begun(l []api.Sym, s string) *reader {
	return &reader{l: l, s: s, now: signAt(l, s, 0), groups: make([]group, 1)}
}

// read reads to the end, or to the sign at which an error is.
func (r *reader) read() api.Errno {
atom:
	switch r.now.kind {
	case none, void, symbol:
		goto alone
	case paren, nest:
		goto open
	}
	return api.BadText

alone:
	if r.now.sym == unknown {
		return api.NoName
	}
	r.add(leaf(r.now))
	r.next()
	goto behind

open:
	switch {
	case r.now.sym == unknown:
		return api.NoName
	case len(r.groups)-1 > maxOpen:
		return api.TooDeep
	}
	r.groups = append(r.groups, group{by: r.now})
	r.next()
	goto atom

behind:
	switch r.now.kind {
	case star:
		r.star()
		r.next()
		goto behind
	case bar:
		r.last().bar()
		r.next()
		goto atom
	case parenShut, nestShut, end:
		goto shut
	}
	goto atom

shut:
	switch {
	case r.now.kind != shutting(r.last().by.kind):
		return api.BadText
	case r.now.sym == unknown:
		return api.NoName
	}
	r.shut()
	if r.now.kind == end {
		return api.OK
	}
	r.next()
	goto behind
}

// next goes on to the next sign.
func (r *reader) next() { r.now = signAt(r.l, r.s, r.now.behind) }

// last is the innermost group that is open.
func (r *reader) last() *group { return &r.groups[len(r.groups)-1] }

// add sets e behind what is read.
func (r *reader) add(e api.Expr) {
	g := r.last()
	g.reps = append(g.reps, e)
}

// star makes of what is right ahead as many as there are.
func (r *reader) star() {
	g := r.last()
	ahead := &g.reps[len(g.reps)-1]
	*ahead = api.Expr{Kind: api.EStar, L: []api.Expr{*ahead}}
}

// bar ends a cat.
func (g *group) bar() {
	g.cats = append(g.cats, joined(api.ECat, g.reps))
	g.reps = nil
}

// shut ends the innermost group, and sets what it is behind what was ahead of it.
func (r *reader) shut() {
	g := r.last()
	g.bar()
	e := joined(api.EOr, g.cats)
	r.groups = r.groups[:len(r.groups)-1]
	switch g.by.kind {
	case nest:
		r.add(api.Expr{Kind: api.ENest, Sym: g.by.sym, End: r.now.sym, L: []api.Expr{e}})
	case paren:
		r.add(e)
	default:
		r.whole = e
	}
}

// shutting is the kind of sign that shuts what one of a kind opened. The whole text is opened by none.
func shutting(kind int) int {
	switch kind {
	case paren:
		return parenShut
	case nest:
		return nestShut
	}
	return end
}

// leaf is the expression that a sign is by itself.
func leaf(s sign) api.Expr {
	switch s.kind {
	case none:
		return api.Expr{Kind: api.ENone}
	case void:
		return api.Expr{Kind: api.EVoid}
	}
	return api.Expr{Kind: api.ESym, Sym: s.sym}
}

// joined are the parts l as one; one part is that itself.
func joined(kind int, l []api.Expr) api.Expr {
	if len(l) == 1 {
		return l[0]
	}
	return api.Expr{Kind: kind, L: l}
}
