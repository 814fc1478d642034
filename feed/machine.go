package feed

import (
	"canopy/api"
)

// unmarked is the mark of a rule that asks for none: of plain symbols, and of closing ones where nothing is left.
const unmarked = 0

// source is a symbol, and the state from which it leads.
type source struct{ sym, state int }

// top is a symbol, and the mark that it takes.
type top struct{ sym, mark int }

// push is a mark that is pushed, and where that leads.
type push struct {
	mark int
	to   set
}

// move leads from a state to others.
type move struct {
	state int
	to    set
}

// machine is an api.Auto laid out for reading. Opening rules are found by where the machine is, as a state pushes few of all marks; the others by what they take.
type machine struct {
	kinds  []int
	pushes map[source][]push
	moves  map[top][]move
	final  set
}

// machineOf lays out a.
func machineOf(l []api.Sym, a api.Auto) machine {
	m := machine{pushes: map[source][]push{}, moves: map[top][]move{}}
	for _, s := range l {
		m.kinds = append(m.kinds, s.Kind)
	}
	opens, others := laid(a)
	for r, to := range opens {
		at := source{r.sym, r.state}
		m.pushes[at] = append(m.pushes[at], push{r.mark, to})
	}
	for r, to := range others {
		at := top{r.sym, r.mark}
		m.moves[at] = append(m.moves[at], move{r.state, to})
	}
	for _, n := range a.Final {
		if isState(n) {
			m.final.put(n)
		}
	}
	return m
}

// opens tells whether a symbol opens.
func (m *machine) opens(sym int) bool { return m.kinds[sym] == api.Opens }

// cue is all that a rule asks for, and what it pushes.
type cue struct{ sym, state, mark int }

// rules are where cues lead.
type rules map[cue]set

// laid are a's opening rules, and the others. Those that differ in nothing but where they lead are one.
func laid(a api.Auto) (rules, rules) {
	opens, others := rules{}, rules{}
	for _, r := range a.Opens {
		opens.add(cue{r.Sym, r.From, r.Push}, r.To)
	}
	for _, r := range a.Closes {
		others.add(cue{r.Sym, r.From, r.Top}, r.To)
	}
	for _, r := range a.Inners {
		others.add(cue{r.Sym, r.From, unmarked}, r.To)
	}
	return opens, others
}

// add adds a rule. One from or to what can be no state is left out, so that a machine that may not be does no harm.
func (rs rules) add(at cue, to int) {
	if isState(at.state) && isState(to) {
		s := rs[at]
		s.put(to)
		rs[at] = s
	}
}
