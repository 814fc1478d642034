package expr

import (
	"iter"

	"canopy/api"
)

// maxNodes is how many nodes an expression may have.
const maxNodes = 200

// form tells what keeps e from being an expression, whatever the symbols are.
func form(e api.Expr) api.Errno {
	switch {
	case deep(e):
		return api.TooDeep
	case long(e):
		return api.TooLong
	case misshapen(e):
		return api.BadKind
	}
	return api.OK
}

// all tells e and all that is in it, from left to right.
func all(e api.Expr) iter.Seq[api.Expr] {
	return func(yield func(api.Expr) bool) { each(e, yield) }
}

// each tells the nodes of e till one is the last that is wanted, and whether none was.
func each(e api.Expr, yield func(api.Expr) bool) bool {
	if !yield(e) {
		return false
	}
	for _, part := range e.L {
		if !each(part, yield) {
			return false
		}
	}
	return true
}

// deep tells whether more nodes are in one another than may be.
func deep(e api.Expr) bool {
	lists := [][]api.Expr{{e}}
	for range api.MaxDeep {
		lists = inside(lists)
	}
	return len(lists) > 0
}

// inside are the lists of what stands in lists. One that many hold is told once: there may be more ways to it than can be gone.
func inside(lists [][]api.Expr) [][]api.Expr {
	var out [][]api.Expr
	told := map[*api.Expr]int{}
	for _, l := range lists {
		for _, e := range l {
			if n := len(e.L); n > 0 && n > told[&e.L[0]] {
				told[&e.L[0]] = n
				out = append(out, e.L)
			}
		}
	}
	return out
}

// long tells whether e has more nodes than it may.
func long(e api.Expr) bool {
	n := 0
	for range all(e) {
		n++
		if n > maxNodes {
			return true
		}
	}
	return false
}

// misshapen tells whether a node of e is not as its kind asks.
func misshapen(e api.Expr) bool {
	for x := range all(e) {
		if !shaped(x) {
			return true
		}
	}
	return false
}

// shaped tells whether e has a kind, and what its kind has and nothing else.
func shaped(e api.Expr) bool {
	n, bare := len(e.L), api.Pair{A: e.Sym, B: e.End} == api.Pair{}
	switch e.Kind {
	case api.ENone, api.EVoid:
		return n == 0 && bare
	case api.ESym:
		return n == 0 && e.End == 0
	case api.ENest:
		return n == 1
	case api.ECat, api.EOr:
		return n >= 2 && bare
	case api.EStar:
		return n == 1 && bare
	}
	return false
}

// strange tells whether a node of e is of a symbol that l has not, or not of that kind.
func strange(l []api.Sym, e api.Expr) bool {
	for x := range all(e) {
		switch x.Kind {
		case api.ESym:
			if symAt(l, x.Sym) == (api.Sym{}) {
				return true
			}
		case api.ENest:
			if symAt(l, x.Sym).Kind != api.Opens || symAt(l, x.End).Kind != api.Closes {
				return true
			}
		}
	}
	return false
}

// loose tells whether within a nest of e a symbol opens or closes alone.
func loose(l []api.Sym, e api.Expr) bool {
	for nest := range all(e) {
		if nest.Kind != api.ENest {
			continue
		}
		for x := range all(nest.L[0]) {
			if x.Kind == api.ESym && symAt(l, x.Sym).Kind != api.Plain {
				return true
			}
		}
	}
	return false
}

// symAt is the symbol at a place of l, or of a place that l has not none.
func symAt(l []api.Sym, place int) api.Sym {
	if place < 0 || place >= len(l) {
		return api.Sym{}
	}
	return l[place]
}
