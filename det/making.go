package det

import (
	"iter"

	"canopy/api"
	"canopy/auto"
)

// cue is what a rule of the new machine waits for: a row, a symbol, and, of a closing one, the mark on top.
type cue struct{ from, sym, top int }

// crossing is an opening symbol and a closing one, and the row that leads from one to the other.
type crossing struct{ open, shut, row int }

// making is a machine on its way: the rows that have come, and the rules between them.
type making struct {
	syms   symbols
	rules  rules
	known  numbers
	rows   []pairs
	across map[crossing]*spread // kept, as each is asked for of every row
	out    api.Auto
}

// begun has the row of nothing read.
func begun(syms symbols, a api.Auto) *making {
	m := &making{syms: syms, rules: rulesOf(a), known: noNumbers(), across: map[crossing]*spread{}}
	m.put(loops(setOf(a.Init)))
	return m
}

// put is the number of a row.
func (m *making) put(row pairs) int {
	n, fresh := m.known.of(row)
	if fresh {
		m.rows = append(m.rows, row)
	}
	return n
}

// steps are the rows to which row i leads, and those to which it leads with one ahead, as what is on top or the other way round. They come in the order in which they are numbered.
func (m *making) steps(i int) iter.Seq2[cue, pairs] {
	return func(yield func(cue, pairs) bool) {
		for sym := range m.syms.all {
			if !yield(m.step(i, sym)) {
				return
			}
		}
		for _, shut := range m.syms.close {
			for _, open := range m.syms.open {
				for j := range i + 1 {
					if !yield(m.back(i, j, open, shut)) {
						return
					}
					if j != i && !yield(m.back(j, i, open, shut)) {
						return
					}
				}
			}
		}
	}
}

// step leads from a row by a symbol that takes no mark.
func (m *making) step(here, sym int) (cue, pairs) {
	at, row, lead := cue{here, sym, bottom}, m.rows[here], m.rules.leads[take{sym, bottom}].from
	if m.syms.all[sym].Kind == api.Opens {
		return at, loops(lead(row.all()))
	}
	return at, row.then(lead)
}

// back leads from a row by a closing symbol that takes the mark of the row under it, and of the opening symbol.
func (m *making) back(here, under, open, shut int) (cue, pairs) {
	c := crossing{open, shut, here}
	over, old := m.across[c]
	if !old {
		over = m.rules.across(open, shut, m.rows[here])
		m.across[c] = over
	}
	return cue{here, shut, m.syms.mark(under, open)}, m.rows[under].then(over.from)
}

// lay lays a rule.
func (m *making) lay(at cue, to int) {
	switch m.syms.all[at.sym].Kind {
	case api.Opens:
		push := m.syms.mark(at.from, at.sym)
		m.out.Opens = append(m.out.Opens, api.Open{From: at.from, Sym: at.sym, To: to, Push: push})
	case api.Closes:
		m.out.Closes = append(m.out.Closes, api.Close{From: at.from, Sym: at.sym, Top: at.top, To: to})
	default:
		m.out.Inners = append(m.out.Inners, api.Inner{From: at.from, Sym: at.sym, To: to})
	}
}

// finished is the machine, once all its rules are laid.
func (m *making) finished(a api.Auto) api.Auto {
	m.out.N, m.out.G, m.out.Init = len(m.rows), len(m.rows)*len(m.syms.open), []int{0}
	final := setOf(a.Final)
	for i, row := range m.rows {
		if row.all().meets(final) {
			m.out.Final = append(m.out.Final, i)
		}
	}
	return auto.Norm(m.out)
}
