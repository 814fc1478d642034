package dtd

import (
	"canopy/api"
)

// states is a set of states.
type states [api.MaxStates]bool

// only is the set of one state.
func only(state int) states {
	var s states
	s[state] = true
	return s
}

// with is what s has, and what t has.
func (s states) with(t states) states {
	for state, has := range t {
		s[state] = s[state] || has
	}
	return s
}

// part is a part of a model: the places with which its words may begin and end, and whether nothing is one of them.
type part struct {
	first, last states
	void        bool
}

// or is p or q.
func (p part) or(q part) part {
	return part{first: p.first.with(q.first), last: p.last.with(q.last), void: p.void || q.void}
}

// orNothing is p or nothing.
func (p part) orNothing() part {
	p.void = true
	return p
}
