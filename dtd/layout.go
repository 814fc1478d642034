package dtd

import (
	"canopy/api"
)

// place is a state: the symbol that is read to come there, of a name that which opens its element, and of a beginning none; the mark of a name; at which states it may be next.
type place struct {
	sym  api.Sym
	mark int
	from states
}

// element is one that is laid: the state of its beginning, and those at which it may end.
type element struct {
	begin int
	last  states
}

// layout is the places that are laid, each at its state, and the elements, by their names.
type layout struct {
	places   []place
	marks    int
	elements map[string]element
	anything api.Model
}

// layoutOf lays s. What is ahead of the root and behind it is laid as one more element, that no name tells, which holds the root alone.
func layoutOf(s api.Schema) layout {
	laid := layout{elements: map[string]element{}, anything: anything(s.L)}
	laid.element(named(s.Root))
	for _, e := range s.L {
		made := laid.element(e.M)
		laid.elements[e.Name] = made
	}
	return laid
}

// named is the model of a name.
func named(name string) api.Model { return api.Model{Kind: api.MName, Name: name} }

// anything is what `any` stands for.
func anything(elements []api.Element) api.Model {
	each := []api.Model{{Kind: api.MText}}
	for _, e := range elements {
		each = append(each, named(e.Name))
	}
	one := api.Model{Kind: api.MOr, L: each}
	return api.Model{Kind: api.MStar, L: []api.Model{one}}
}

// element lays an element: its beginning, then its model. So it may end at its beginning, too, where its model may be nothing.
func (laid *layout) element(m api.Model) element {
	begin := len(laid.places)
	beginning := laid.add(place{})
	model := laid.lay(m)
	whole := laid.then(beginning, model)
	return element{begin: begin, last: whole.last}
}

// add adds a place.
func (laid *layout) add(p place) part {
	here := only(len(laid.places))
	laid.places = append(laid.places, p)
	return part{first: here, last: here}
}

// lay lays a model.
func (laid *layout) lay(m api.Model) part {
	switch m.Kind {
	case api.MVoid:
		return part{void: true}
	case api.MAny:
		return laid.lay(laid.anything)
	case api.MText:
		return laid.add(place{sym: plainText()})
	case api.MName:
		laid.marks++
		return laid.add(place{sym: opening(m.Name), mark: laid.marks})
	case api.MSeq:
		return laid.seq(m.L)
	case api.MOr:
		return laid.or(m.L)
	case api.MStar:
		return laid.again(m.L).orNothing()
	case api.MPlus:
		return laid.again(m.L)
	case api.MOpt:
		return laid.seq(m.L).orNothing()
	}
	return part{}
}

// seq lays parts, one behind the other; one part is that itself.
func (laid *layout) seq(l []api.Model) part {
	all := part{void: true}
	for _, m := range l {
		next := laid.lay(m)
		all = laid.then(all, next)
	}
	return all
}

// or lays parts, one of which is read.
func (laid *layout) or(l []api.Model) part {
	var all part
	for _, m := range l {
		next := laid.lay(m)
		all = all.or(next)
	}
	return all
}

// again lays what may be once or more.
func (laid *layout) again(l []api.Model) part {
	once := laid.seq(l)
	laid.link(once.last, once.first)
	return once
}

// then is p, and q behind it.
func (laid *layout) then(p, q part) part {
	laid.link(p.last, q.first)
	both := part{first: p.first, last: q.last, void: p.void && q.void}
	if p.void {
		both.first = p.first.with(q.first)
	}
	if q.void {
		both.last = p.last.with(q.last)
	}
	return both
}

// link lets each of some places be next at some states.
func (laid *layout) link(from, to states) {
	for at := range laid.places {
		if to[at] {
			laid.places[at].from = laid.places[at].from.with(from)
		}
	}
}
