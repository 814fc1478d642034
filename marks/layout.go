package marks

import (
	"canopy/api"
	"canopy/expr"
)

// alone is what a place belongs to that belongs to none.
const alone = -1

// layout is the places that are laid, from left to right.
type layout struct{ marks []Mark }

// layoutOf lays e, and tells how its words go over the places. What may not be has no places: there may be more of them than can be laid.
func layoutOf(l []api.Sym, e api.Expr) (layout, part) {
	if expr.Check(l, e) != api.OK {
		return layout{}, part{}
	}
	var laid layout
	whole := laid.lay(e)
	return laid, whole
}

// lay lays e behind what is laid.
func (laid *layout) lay(e api.Expr) part {
	switch e.Kind {
	case api.EVoid:
		return part{void: true}
	case api.ESym:
		return laid.place(e.Sym)
	case api.ENest:
		return laid.nest(e)
	case api.ECat:
		return laid.joined(e.L, part.then)
	case api.EOr:
		return laid.joined(e.L, part.or)
	case api.EStar:
		return laid.lay(e.L[0]).again()
	}
	return part{}
}

// place lays one place.
func (laid *layout) place(sym int) part {
	here := only(len(laid.marks))
	laid.marks = append(laid.marks, Mark{Sym: sym, With: alone})
	return part{first: here, last: here}
}

// nest lays a nest, which is a cat of what begins it, what is in it, and what ends it.
func (laid *layout) nest(e api.Expr) part {
	from := len(laid.marks)
	begin := laid.place(e.Sym)
	inside := laid.lay(e.L[0])
	to := len(laid.marks)
	end := laid.place(e.End)
	laid.marks[from].With, laid.marks[to].With = to, from
	return begin.then(inside).then(end)
}

// joined lays all of l, and joins each to those ahead of it.
func (laid *layout) joined(l []api.Expr, join func(p, q part) part) part {
	all := laid.lay(l[0])
	for _, e := range l[1:] {
		next := laid.lay(e)
		all = join(all, next)
	}
	return all
}
