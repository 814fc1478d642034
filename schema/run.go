package schema

import (
	"canopy/api"
)

// Kinds of steps.
const (
	stops    = iota // nothing is behind it
	reads           // a symbol, then on to next
	readsAny        // any symbol, then on to next
	forks           // nothing, and on to next and to fork
)

// finish is the number of the step at which a model is read, nowhere that of one from which it can't be.
const (
	finish  = 0
	nowhere = 1
)

// step is a step on a way through a model; an element is read by the symbol that opens it.
type step struct {
	kind       int
	sym        api.Sym
	next, fork int
}

// run is what an element holds being read by steps, from first on. Ahead are the steps that may be next, but no forks, was those a symbol earlier; entered tells of each step at which count it was last entered, so that none is twice at one, and those that lead around come to an end.
type run struct {
	steps      []step
	first      int
	ahead, was []int
	entered    []int
	count      int // more at each symbol and each beginning, and nothing is entered at 0
}

// runOf is a run of m.
func runOf(m api.Model) *run {
	r := &run{steps: []step{finish: {kind: stops}, nowhere: {kind: stops}}}
	r.first = r.lay(m, finish)
	r.entered = make([]int, len(r.steps))
	return r
}

// lay lays the steps of m, behind which it goes on at next, and tells its first one.
func (r *run) lay(m api.Model, next int) int {
	switch m.Kind {
	case api.MVoid:
		return next
	case api.MAny:
		around := r.add(step{kind: forks, fork: next})
		return r.lead(around, r.add(step{kind: readsAny, next: around}))
	case api.MText:
		return r.add(step{kind: reads, sym: plainText(), next: next})
	case api.MName:
		return r.add(step{kind: reads, sym: opening(m.Name), next: next})
	case api.MSeq:
		return r.laySeq(m.L, next)
	case api.MOr:
		return r.layOr(m.L, next)
	case api.MStar:
		around := r.add(step{kind: forks, fork: next})
		return r.lead(around, r.laySeq(m.L, around))
	case api.MPlus:
		around := r.add(step{kind: forks, fork: next})
		first := r.laySeq(m.L, around)
		r.lead(around, first)
		return first
	case api.MOpt:
		return r.add(step{kind: forks, next: r.laySeq(m.L, next), fork: next})
	}
	return nowhere
}

// laySeq lays parts, one behind the other; one part is that itself.
func (r *run) laySeq(parts []api.Model, next int) int {
	for i := len(parts) - 1; i >= 0; i-- {
		next = r.lay(parts[i], next)
	}
	return next
}

// layOr lays parts, one of which is read.
func (r *run) layOr(parts []api.Model, next int) int {
	first := nowhere
	for _, part := range parts {
		first = r.add(step{kind: forks, next: r.lay(part, next), fork: first})
	}
	return first
}

// add adds a step, and tells its number.
func (r *run) add(s step) int {
	r.steps = append(r.steps, s)
	return len(r.steps) - 1
}

// lead sets where a step that is laid leads, and tells the step's number.
func (r *run) lead(at, next int) int {
	r.steps[at].next = next
	return at
}

// begin has read nothing.
func (r *run) begin() {
	r.ahead = r.ahead[:0]
	r.count++
	r.enter(r.first)
}

// enter sets a step ahead, or those to which it forks.
func (r *run) enter(at int) {
	if r.entered[at] == r.count {
		return
	}
	r.entered[at] = r.count
	s := r.steps[at]
	if s.kind != forks {
		r.ahead = append(r.ahead, at)
		return
	}
	r.enter(s.next)
	r.enter(s.fork)
}

// read reads a symbol, and tells whether a step is ahead then.
func (r *run) read(sym api.Sym) bool {
	r.was, r.ahead = r.ahead, r.was[:0]
	r.count++
	for _, at := range r.was {
		s := r.steps[at]
		if s.kind == readsAny || s.kind == reads && s.sym == sym {
			r.enter(s.next)
		}
	}
	return len(r.ahead) > 0
}

// done tells whether what is read is a word of the model.
func (r *run) done() bool { return r.entered[finish] == r.count }
