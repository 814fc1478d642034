package marks

import (
	"slices"
)

// bond is that each of the places ahead may have each of those behind right behind it.
type bond struct{ ahead, behind places }

// part is a part of an expression: the places with which its words may begin and end, what may stand behind what in them, and whether nothing is one of them.
type part struct {
	first, last places
	bonds       []bond
	void        bool
}

// then is p, and q behind it.
func (p part) then(q part) part {
	both := part{first: p.first, last: q.last, void: p.void && q.void}
	if p.void {
		both.first = p.first.with(q.first)
	}
	if q.void {
		both.last = p.last.with(q.last)
	}
	both.bonds = slices.Concat(p.bonds, q.bonds, []bond{{p.last, q.first}})
	return both
}

// or is p or q.
func (p part) or(q part) part {
	return part{
		first: p.first.with(q.first),
		last:  p.last.with(q.last),
		bonds: slices.Concat(p.bonds, q.bonds),
		void:  p.void || q.void,
	}
}

// again is as many of p as there are.
func (p part) again() part {
	p.bonds = slices.Concat(p.bonds, []bond{{p.last, p.first}})
	p.void = true
	return p
}

// behind are the places that may stand right behind one.
func (p part) behind(place int) places {
	var s places
	for _, b := range p.bonds {
		if b.ahead.has(place) {
			s = s.with(b.behind)
		}
	}
	return s
}
