package auto

import (
	"slices"

	"canopy/api"
)

// Kinds of things.
const (
	state = iota
	mark
)

// bottom is the mark that is on top where nothing is left.
const bottom = 0

// thing is a state, or a mark.
type thing struct{ kind, number int }

// move is a rule, whatever its kind. One that asks for no mark asks for the bottom, one that pushes none pushes that: it is always there, so this changes nothing.
type move struct{ from, top, to, push int }

// needs are the things without which m may not come.
func (m move) needs() [2]thing { return [2]thing{{state, m.from}, {mark, m.top}} }

// gives are the things to which m leads.
func (m move) gives() [2]thing { return [2]thing{{state, m.to}, {mark, m.push}} }

// moves are a's rules.
func moves(a api.Auto) []move {
	var l []move
	for _, r := range a.Opens {
		l = append(l, move{from: r.From, top: bottom, to: r.To, push: r.Push})
	}
	for _, r := range a.Closes {
		l = append(l, move{from: r.From, top: r.Top, to: r.To, push: bottom})
	}
	for _, r := range a.Inners {
		l = append(l, move{from: r.From, top: bottom, to: r.To, push: bottom})
	}
	return l
}

// waiting are the moves that need each thing.
func waiting(l []move) map[thing][]move {
	w := map[thing][]move{}
	for _, m := range l {
		for _, t := range m.needs() {
			w[t] = append(w[t], m)
		}
	}
	return w
}

// found are the states that are reached, the marks that are pushed, and the bottom.
type found map[thing]struct{}

// allows tells whether m may come.
func (f found) allows(m move) bool {
	for _, t := range m.needs() {
		if _, ok := f[t]; !ok {
			return false
		}
	}
	return true
}

// find goes from what Init has to all that rules lead to. A move is asked again as each of its needs is found, so the last one lets it come.
func find(a api.Auto) found {
	f, w := found{}, waiting(moves(a))
	todo := []thing{{mark, bottom}}
	for _, s := range a.Init {
		todo = append(todo, thing{state, s})
	}
	for len(todo) > 0 {
		t := todo[len(todo)-1]
		todo = todo[:len(todo)-1]
		if _, old := f[t]; old {
			continue
		}
		f[t] = struct{}{}
		for _, m := range w[t] {
			if f.allows(m) {
				g := m.gives()
				todo = append(todo, g[:]...)
			}
		}
	}
	return f
}

// numbers are the new numbers of the things of a kind, from 0 on, as the old ones rise. So the bottom stays the bottom.
func (f found) numbers(kind int) map[int]int {
	var old []int
	for t := range f {
		if t.kind == kind {
			old = append(old, t.number)
		}
	}
	slices.Sort(old)
	fresh := map[int]int{}
	for i, n := range old {
		fresh[n] = i
	}
	return fresh
}

// Trim is a without what may not come.
func Trim(l []api.Sym, a api.Auto) api.Auto {
	f := find(a)
	states, marks := f.numbers(state), f.numbers(mark)
	b := api.Auto{N: len(states), G: len(marks) - 1, Init: kept(a.Init, states), Final: kept(a.Final, states)}
	for _, r := range a.Opens {
		if from, ok := states[r.From]; ok {
			b.Opens = append(b.Opens, api.Open{From: from, Sym: r.Sym, To: states[r.To], Push: marks[r.Push]})
		}
	}
	for _, r := range a.Closes {
		from, ok := states[r.From]
		if top, pushed := marks[r.Top]; ok && pushed {
			b.Closes = append(b.Closes, api.Close{From: from, Sym: r.Sym, Top: top, To: states[r.To]})
		}
	}
	for _, r := range a.Inners {
		if from, ok := states[r.From]; ok {
			b.Inners = append(b.Inners, api.Inner{From: from, Sym: r.Sym, To: states[r.To]})
		}
	}
	return Norm(b)
}

// kept are the new numbers of those of l that have one.
func kept(l []int, fresh map[int]int) []int {
	var out []int
	for _, n := range l {
		if m, ok := fresh[n]; ok {
			out = append(out, m)
		}
	}
	return out
}
