package dtd

import (
	"canopy/api"
	"canopy/schema"
)

// States ahead of the root, and behind it.
const (
	ahead = iota
	behind
)

// machine is one whose rules are laid place by place.
type machine struct {
	api.Auto
	layout
	number map[api.Sym]int // of each symbol
}

// machineOf is the machine of s.
func machineOf(s api.Schema) machine {
	m := machine{layout: layoutOf(s), number: numbers(schema.Syms(s))}
	m.N, m.G = len(m.places), m.marks
	m.Init, m.Final = []int{ahead}, []int{behind}
	for at, p := range m.places {
		switch p.sym.Kind {
		case api.Plain:
			m.read(at, p)
		case api.Opens:
			m.nest(at, p)
		}
	}
	return m
}

// numbers are those of symbols, the places where they stand in l.
func numbers(l []api.Sym) map[api.Sym]int {
	number := map[api.Sym]int{}
	for i, sym := range l {
		number[sym] = i
	}
	return number
}

// opening is the symbol that opens an element.
func opening(name string) api.Sym { return api.Sym{Name: name, Kind: api.Opens} }

// closing is the symbol that closes an element.
func closing(name string) api.Sym { return api.Sym{Name: name, Kind: api.Closes} }

// plainText is the symbol of a text.
func plainText() api.Sym { return api.Sym{Name: "text", Kind: api.Plain} }

// read lays how a text is read.
func (m *machine) read(at int, p place) {
	for from, may := range p.from {
		if may {
			m.Inners = append(m.Inners, api.Inner{From: from, Sym: m.number[p.sym], To: at})
		}
	}
}

// nest lays how an element at a place is read: into it from each state at which the place may be next, and out of it, to the place, from each at which it may end. A name that no element has can't be read.
func (m *machine) nest(at int, p place) {
	e, known := m.elements[p.sym.Name]
	if !known {
		return
	}
	open, shut := m.number[p.sym], m.number[closing(p.sym.Name)]
	for state := range m.N {
		if p.from[state] {
			m.Opens = append(m.Opens, api.Open{From: state, Sym: open, To: e.begin, Push: p.mark})
		}
		if e.last[state] {
			m.Closes = append(m.Closes, api.Close{From: state, Sym: shut, Top: p.mark, To: at})
		}
	}
}
