package det

import (
	"canopy/api"
)

// ends are the Bs of an A.
type ends struct {
	a  int
	bs states
}

// pairs are pairs of states: each A once that has a B. As without one take no room: of most marks few states have pairs.
type pairs []ends

// loops are the pairs of each state of s with itself.
func loops(s states) pairs {
	var p pairs
	for q := range s.all() {
		p = append(p, ends{q, only(q)})
	}
	return p
}

// all are all the Bs.
func (p pairs) all() states {
	var s states
	for i := range p {
		s.join(&p[i].bs)
	}
	return s
}

// from are the Bs of the As of s.
func (p pairs) from(s states) states {
	var bs states
	for i := range p {
		if s.has(p[i].a) {
			bs.join(&p[i].bs)
		}
	}
	return bs
}

// then are the pairs of each A and of where lead goes from its Bs.
func (p pairs) then(lead func(s states) states) pairs {
	out := make(pairs, 0, len(p))
	for _, e := range p {
		if bs := lead(e.bs); !bs.none() {
			out = append(out, ends{e.a, bs})
		}
	}
	return out
}

// spread is pairs laid out by their As, so that those of few are found at once.
type spread [api.MaxStates]states

// spread lays out p.
func (p pairs) spread() *spread {
	s := &spread{}
	for _, e := range p {
		s[e.a] = e.bs
	}
	return s
}

// from are the Bs of the As of s.
func (l *spread) from(s states) states {
	var bs states
	for a := range s.all() {
		bs.join(&l[a])
	}
	return bs
}
