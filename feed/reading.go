package feed

import (
	"slices"

	"canopy/api"
	"canopy/runs"
)

// row is where the machine may be now, if it was at first right behind the last opening symbol that waits for its partner.
type row struct {
	first int
	now   set
}

// level is an opening symbol that waits for its partner, and the rows ahead of it.
type level struct {
	sym  int
	rows []row
}

// reading is a machine that reads. It keeps no stacks, as the machine may have more of them than can be: what was pushed is found again as its symbol's partner comes.
type reading struct {
	machine
	rows    []row
	waiting []level
	open    int // how many opening symbols wait
}

// readingOf has read nothing. Nobody asks what first is where nothing waits, so one row does.
func readingOf(l []api.Sym, a api.Auto) reading {
	var start row
	for _, at := range runs.Start(a) {
		if isState(at.State) {
			start.now.put(at.State)
		}
	}
	return reading{machine: machineOf(l, a), rows: []row{start}}
}

// taken tells whether the machine may be at a state of Final.
func (r *reading) taken() bool {
	here := everywhere(r.rows)
	for n := range r.final.all() {
		if here.has(n) {
			return true
		}
	}
	return false
}

// read goes on by a symbol.
func (r *reading) read(sym int) {
	switch r.kinds[sym] {
	case api.Opens:
		r.down(sym)
	case api.Closes:
		r.up(sym)
	default:
		r.along(sym)
	}
	// A machine that is nowhere stays so: it needs to keep no levels, however deep it goes on.
	if len(r.rows) == 0 {
		r.waiting = nil
	}
}

// along goes on by a symbol that takes no mark.
func (r *reading) along(sym int) { r.rows = led(r.rows, r.moves[top{sym, unmarked}]) }

// down goes on by an opening symbol.
func (r *reading) down(sym int) {
	var to set
	for n := range everywhere(r.rows).all() {
		for _, p := range r.pushes[source{sym, n}] {
			to.join(&p.to)
		}
	}
	r.waiting = append(r.waiting, level{sym, r.rows})
	r.rows = nil
	for n := range to.all() {
		own := row{first: n}
		own.now.put(n)
		r.rows = append(r.rows, own)
	}
	r.open++
}

// up goes on by a closing symbol.
func (r *reading) up(sym int) {
	r.open = max(r.open-1, 0)
	last := len(r.waiting) - 1
	if last < 0 {
		r.along(sym)
		return
	}
	over := r.waiting[last]
	r.waiting = slices.Delete(r.waiting, last, last+1)
	r.rows = led(over.rows, r.across(over, sym))
}

// across are the moves over all from a level's opening symbol to its partner, the rows between.
func (r *reading) across(over level, sym int) []move {
	out := r.exits(sym)
	var l []move
	for n := range everywhere(over.rows).all() {
		m := move{state: n}
		for _, p := range r.pushes[source{over.sym, n}] {
			for first := range p.to.all() {
				to := out(exit{first, p.mark})
				m.to.join(&to)
			}
		}
		if m.to != (set{}) {
			l = append(l, m)
		}
	}
	return l
}

// exit is where the machine was at first behind an opening symbol, and the mark that it takes as it leaves.
type exit struct{ first, mark int }

// exits tells where a closing symbol leads by each exit. Many states ahead may share one, so each is found once.
func (r *reading) exits(sym int) func(exit) set {
	now := map[int]set{}
	for _, x := range r.rows {
		now[x.first] = x.now
	}
	known := map[exit]set{}
	return func(at exit) set {
		to, is := known[at]
		if !is {
			to = reached(now[at.first], r.moves[top{sym, at.mark}])
			known[at] = to
		}
		return to
	}
}

// everywhere is where the machine may be, whatever it was at first.
func everywhere(rows []row) set {
	var s set
	for i := range rows {
		s.join(&rows[i].now)
	}
	return s
}

// led are the rows where moves lead. A row that is nowhere any more is left out.
func led(rows []row, l []move) []row {
	var out []row
	for _, x := range rows {
		x.now = reached(x.now, l)
		if x.now != (set{}) {
			out = append(out, x)
		}
	}
	return out
}

// reached is where moves lead from the states of s.
func reached(s set, l []move) set {
	var to set
	for i := range l {
		if s.has(l[i].state) {
			to.join(&l[i].to)
		}
	}
	return to
}
