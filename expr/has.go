package expr

import (
	"canopy/api"
)

// Kinds of steps.
const (
	stops = iota // nothing is behind it
	reads        // a symbol, then on to next
	forks        // nothing, and on to next and to fork
)

// finish is the number of the step at which an expression is read, nowhere that of one from which it can't be.
const (
	finish  = 0
	nowhere = 1
)

// step is a step on a way through an expression.
type step struct{ kind, sym, next, fork int }

// run is a word being read by steps. Ahead are the steps that may be next, but no forks, was those a symbol earlier; entered tells of each step at which count it was last entered, so that none is twice at one, and those that lead around come to an end.
type run struct {
	steps      []step
	ahead, was []int
	entered    []int
	count      int // one more than the symbols that are read, as nothing is entered at 0
}

// runOf is a run of e that has read nothing.
func runOf(e api.Expr) *run {
	r := &run{steps: []step{finish: {kind: stops}, nowhere: {kind: stops}}}
	first := r.lay(e, finish)
	r.entered = make([]int, len(r.steps))
	r.count = 1
	r.enter(first)
	return r
}

// lay lays the steps of e, behind which it goes on at next, and tells its first one. A nest is a cat here: its end belongs to its beginning by the place where it stands.
func (r *run) lay(e api.Expr, next int) int {
	switch e.Kind {
	case api.EVoid:
		return next
	case api.ESym:
		return r.add(step{kind: reads, sym: e.Sym, next: next})
	case api.ENest:
		end := r.add(step{kind: reads, sym: e.End, next: next})
		return r.add(step{kind: reads, sym: e.Sym, next: r.lay(e.L[0], end)})
	case api.ECat:
		for i := len(e.L) - 1; i >= 0; i-- {
			next = r.lay(e.L[i], next)
		}
		return next
	case api.EOr:
		first := nowhere
		for _, part := range e.L {
			first = r.add(step{kind: forks, next: r.lay(part, next), fork: first})
		}
		return first
	case api.EStar:
		around := r.add(step{kind: forks, fork: next})
		first := r.lay(e.L[0], around)
		r.steps[around].next = first // a line of its own, as lay moves the steps
		return around
	}
	return nowhere
}

// add adds a step, and tells its number.
func (r *run) add(s step) int {
	r.steps = append(r.steps, s)
	return len(r.steps) - 1
}

// enter sets a step ahead, or those to which it forks.
func (r *run) enter(at int) {
	if r.entered[at] == r.count {
		return
	}
	r.entered[at] = r.count
	s := r.steps[at]
	if s.kind != forks {
		r.ahead = append(r.ahead, at)
		return
	}
	r.enter(s.next)
	r.enter(s.fork)
}

// read reads a symbol, and tells whether a step is ahead then.
func (r *run) read(sym int) bool {
	r.was, r.ahead = r.ahead, r.was[:0]
	r.count++
	for _, at := range r.was {
		if s := r.steps[at]; s.kind == reads && s.sym == sym {
			r.enter(s.next)
		}
	}
	return len(r.ahead) > 0
}

// done tells whether what is read is a word of the expression.
func (r *run) done() bool { return r.entered[finish] == r.count }
