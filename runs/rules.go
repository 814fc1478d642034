package runs

import (
	"canopy/api"
)

// unmarked is the mark of a rule that pushes none, or that asks that nothing is left.
const unmarked = 0

// move leads from a state to states.
type move struct {
	from int
	to   states
}

// moves have one move of a state at most.
type moves []move

// from is where the moves lead from the states s.
func (m moves) from(s states) states {
	var to states
	for i := range m {
		if s.has(m[i].from) {
			to.join(&m[i].to)
		}
	}
	return to
}

// rules are those of one symbol, by the mark that they push, or take.
type rules map[int]moves

// rulesOf are a's rules of a symbol. Those that stand more than once count once.
func rulesOf(a api.Auto, sym int) rules {
	type start struct{ mark, from int }
	leads := map[start]states{}
	add := func(by, mark, from, to int) {
		if by == sym {
			at := start{mark, from}
			leads[at] = leads[at].with(only(to))
		}
	}
	for _, r := range a.Opens {
		add(r.Sym, r.Push, r.From, r.To)
	}
	for _, r := range a.Closes {
		add(r.Sym, r.Top, r.From, r.To)
	}
	for _, r := range a.Inners {
		add(r.Sym, unmarked, r.From, r.To)
	}
	rs := rules{}
	for at, to := range leads {
		rs[at.mark] = append(rs[at.mark], move{at.from, to})
	}
	return rs
}
