package runs

import (
	"canopy/api"
)

// row is where the machine may be, if it was at first behind the last symbol that opened and has no partner yet.
type row struct {
	first int
	now   states
}

// opened is an opening symbol that waits for its partner: its rules, and the rows ahead of it.
type opened struct {
	by   rules
	rows []row
}

// reading is how far a word is read. It keeps no stacks, as there may be more of them than can be: what was pushed is found again by the rules of the opening symbol, once its partner comes.
type reading struct {
	rows    []row
	waiting []opened
}

// begun has read nothing. Nobody asks what first was where nothing waits, so one row does.
func begun(a api.Auto) *reading {
	return &reading{rows: []row{{now: setOf(a.Init)}}}
}

// everywhere is where the machine may be, whatever it was at first.
func everywhere(rows []row) states {
	var s states
	for i := range rows {
		s.join(&rows[i].now)
	}
	return s
}

// reader is how a symbol is read.
func reader(l []api.Sym, a api.Auto, sym int) func(*reading) {
	rs := rulesOf(a, sym)
	switch kindOf(l, sym) {
	case api.Opens:
		return rs.open
	case api.Closes:
		return rs.close
	}
	return rs.stay
}

// stay reads a symbol that pushes nothing and takes nothing.
func (rs rules) stay(r *reading) { r.rows = led(r.rows, rs[unmarked]) }

// open reads an opening symbol.
func (rs rules) open(r *reading) {
	here := everywhere(r.rows)
	var to states
	for _, m := range rs {
		to = to.with(m.from(here))
	}
	r.waiting = append(r.waiting, opened{rs, r.rows})
	r.rows = nil
	for s := range to.all() {
		r.rows = append(r.rows, row{s, only(s)})
	}
}

// close reads a closing symbol.
func (rs rules) close(r *reading) {
	last := len(r.waiting) - 1
	if last < 0 {
		rs.stay(r)
		return
	}
	partner := r.waiting[last]
	r.waiting = r.waiting[:last]
	r.rows = led(partner.rows, partner.across(r.rows, rs))
}

// across are the moves over all from the opening symbol to the closing one, whose rules are these, the rows between.
func (o opened) across(between []row, closing rules) moves {
	var inside, behind, over [api.MaxStates]states
	for i := range between {
		inside[between[i].first] = between[i].now
	}
	ahead := everywhere(o.rows)
	for mark, m := range o.by {
		back := closing[mark]
		if len(back) == 0 {
			continue
		}
		for s := range m.from(ahead).all() {
			behind[s] = back.from(inside[s])
		}
		for i := range m {
			if from := m[i].from; ahead.has(from) {
				over[from] = over[from].with(joined(behind[:], m[i].to))
			}
		}
	}
	var l moves
	for s := range ahead.all() {
		if !over[s].none() {
			l = append(l, move{s, over[s]})
		}
	}
	return l
}

// joined is what sets has at all places of at.
func joined(sets []states, at states) states {
	var s states
	for n := range at.all() {
		s.join(&sets[n])
	}
	return s
}

// led are the rows where moves lead. A row that is nowhere any more is left out.
func led(rows []row, m moves) []row {
	var out []row
	for i := range rows {
		if now := m.from(rows[i].now); !now.none() {
			out = append(out, row{rows[i].first, now})
		}
	}
	return out
}
