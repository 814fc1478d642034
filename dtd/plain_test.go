package dtd_test

import (
	"canopy/api"
	"canopy/auto"
	"canopy/schema"
)

// These make machines by other means than the program: models are laid as nets, in which a way without a symbol leads from knot to knot; what may be next is what such ways lead to.

// plainPlace is a place: it leads from a knot to a knot; of a name it has the element's place in the schema, and its mark, of a text -1.
type plainPlace struct{ from, to, element, mark int }

// plainNet is knots, the ways between them, and the places, which are states from state on.
type plainNet struct {
	s      api.Schema
	ways   [][]int
	places map[int]plainPlace
	states int
	marks  int
}

// knots are n new ones.
func (n *plainNet) knots() (int, int) {
	n.ways = append(n.ways, nil, nil)
	return len(n.ways) - 2, len(n.ways) - 1
}

// way leads from one knot to another.
func (n *plainNet) way(from, to int) { n.ways[from] = append(n.ways[from], to) }

// reached are the knots to which ways lead from one, and that itself.
func (n *plainNet) reached(from int) map[int]bool {
	seen, todo := map[int]bool{from: true}, []int{from}
	for len(todo) > 0 {
		at := todo[len(todo)-1]
		todo = todo[:len(todo)-1]
		for _, to := range n.ways[at] {
			if !seen[to] {
				seen[to] = true
				todo = append(todo, to)
			}
		}
	}
	return seen
}

// place lays one.
func (n *plainNet) place(element int) (int, int) {
	from, to := n.knots()
	p := plainPlace{from: from, to: to, element: element}
	if element >= 0 {
		n.marks++
		p.mark = n.marks
	}
	n.places[n.states] = p
	n.states++
	return from, to
}

// lay lays a model between two knots.
func (n *plainNet) lay(m api.Model) (int, int) {
	if m.Kind == api.MText {
		return n.place(-1)
	}
	if m.Kind == api.MName {
		return n.place(place(n.s, m.Name))
	}
	from, to := n.knots()
	parts := m.L
	if m.Kind == api.MAny {
		parts = []api.Model{text()}
		for _, e := range n.s.L {
			parts = append(parts, name(e.Name))
		}
	}
	at := from
	for _, part := range parts {
		in, out := n.lay(part)
		n.way(at, in)
		switch m.Kind {
		case api.MSeq:
			at = out
		case api.MStar, api.MPlus, api.MAny:
			n.way(out, from)
			n.way(out, to)
		default:
			n.way(out, to)
		}
	}
	switch m.Kind {
	case api.MSeq:
		n.way(at, to)
	case api.MVoid, api.MAny, api.MStar, api.MOpt:
		n.way(from, to)
	}
	return from, to
}

// plainMachine is that of s.
func plainMachine(s api.Schema) api.Auto {
	n := &plainNet{s: s, places: map[int]plainPlace{}, states: 2, marks: 1}
	root := place(s, s.Root)
	n.places[1] = plainPlace{element: root, mark: 1}
	starts, ends := map[int]map[int]bool{}, map[int]int{} // of each state but 0 and 1 what it reaches; the knot at which its element ends
	var begins []int
	for _, e := range s.L {
		begin := n.states
		begins = append(begins, begin)
		n.states++
		in, out := n.lay(e.M)
		starts[begin], ends[begin] = n.reached(in), out
		for state := begin + 1; state < n.states; state++ {
			starts[state], ends[state] = n.reached(n.places[state].to), out
		}
	}
	m := api.Auto{N: n.states, G: n.marks, Init: []int{0}, Final: []int{1}}
	m.Opens = append(m.Opens, api.Open{From: 0, Sym: 2 * root, To: begins[root], Push: 1})
	element := -1
	for from := 2; from < n.states; from++ {
		if element+1 < len(begins) && from == begins[element+1] {
			element++
		}
		for to, p := range n.places {
			switch {
			case to > 1 && p.element < 0 && starts[from][p.from]:
				m.Inners = append(m.Inners, api.Inner{From: from, Sym: len(schema.Syms(s)) - 1, To: to})
			case to > 1 && p.element >= 0 && starts[from][p.from]:
				m.Opens = append(m.Opens, api.Open{From: from, Sym: 2 * p.element, To: begins[p.element], Push: p.mark})
			}
			if p.element == element && starts[from][ends[from]] {
				m.Closes = append(m.Closes, api.Close{From: from, Sym: 2*element + 1, Top: p.mark, To: to})
			}
		}
	}
	return auto.Norm(m)
}
