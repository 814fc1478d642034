package schema

import (
	"canopy/api"
)

// document is a word w of the symbols l; partner tells where each one's partner is.
type document struct {
	l          []api.Sym
	w, partner []int
}

// known tells whether l has each symbol of w.
func known(l []api.Sym, w []int) bool {
	for _, place := range w {
		if place < 0 || place >= len(l) {
			return false
		}
	}
	return true
}

// sym is the symbol at a place of the word.
func (d document) sym(at int) api.Sym { return d.l[d.w[at]] }

// within tells whether an element of that name begins where the word does, and ends where it does; so all between has its partner there, too.
func (d document) within(name string) bool {
	return len(d.w) > 0 && d.sym(0) == opening(name) && d.partner[0] == len(d.w)-1
}

// paired tells whether each opening symbol's partner is of its name.
func (d document) paired() bool {
	for at := range d.w {
		if s := d.sym(at); s.Kind == api.Opens && d.sym(d.partner[at]) != closing(s.Name) {
			return false
		}
	}
	return true
}

// fits tells whether each element holds what its model asks. What it holds is read without what those hold in turn, so each is told by itself.
func (d document) fits(elements []api.Element) bool {
	runs := make([]*run, len(elements))
	for i, e := range elements {
		runs[i] = runOf(e.M)
	}
	for at, place := range d.w {
		if d.sym(at).Kind == api.Opens && !d.holds(at, runs[place/2]) { // two symbols of each element
			return false
		}
	}
	return true
}

// holds tells whether what the element that begins at a place holds is a word of r.
func (d document) holds(begin int, r *run) bool {
	r.begin()
	for at := begin + 1; at < d.partner[begin]; at = d.behind(at) {
		if !r.read(d.sym(at)) {
			return false
		}
	}
	return r.done()
}

// behind is the place behind a text, or behind the whole element that begins there.
func (d document) behind(at int) int { return max(at, d.partner[at]) + 1 }
