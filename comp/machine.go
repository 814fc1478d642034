package comp

import (
	"canopy/api"
	"canopy/marks"
)

const (
	bottom = 0 // what is on top where nothing is left
	loose  = 1 // the mark that all opening symbols outside of nests push
)

// machine is one whose rules are laid one by one, over the places of an expression.
type machine struct {
	api.Auto
	symbols []api.Sym
	places  []marks.Mark
	own     map[int]int // of the place at which a nest begins: its mark
}

// nests are the marks of the nests, each by the place at which it begins. Each has one of its own, so that no other's end takes it.
func nests(places []marks.Mark) map[int]int {
	own := map[int]int{}
	last := loose
	for place, m := range places {
		if m.With > place {
			last++
			own[place] = last
		}
	}
	return own
}

// lead lays how a place is read at a state.
func (m *machine) lead(from, place int) {
	sym, to := m.places[place].Sym, stateOf(place)
	switch m.symbols[sym].Kind {
	case api.Plain:
		m.Inners = append(m.Inners, api.Inner{From: from, Sym: sym, To: to})
	case api.Opens:
		push := m.mark(place)
		m.Opens = append(m.Opens, api.Open{From: from, Sym: sym, To: to, Push: push})
	case api.Closes:
		if top := m.mark(m.places[place].With); top == loose {
			m.shut(from, place, loose, bottom)
		} else {
			m.shut(from, place, top)
		}
	}
}

// mark is that of the nest that begins at a place, and loose, if none does.
func (m *machine) mark(begin int) int {
	if own, begins := m.own[begin]; begins {
		return own
	}
	return loose
}

// shut lays how a closing symbol's place is read at a state: a rule for each mark that may be on top.
func (m *machine) shut(from, place int, tops ...int) {
	sym, to := m.places[place].Sym, stateOf(place)
	for _, top := range tops {
		m.Closes = append(m.Closes, api.Close{From: from, Sym: sym, Top: top, To: to})
	}
}
