package comp_test

import (
	"math/rand"
	"slices"
	"testing"

	"canopy/api"
	"canopy/expr"
)

// Places of letters' symbols.
const (
	x = iota
	shutA
	openA
	y
	openB
	shutB
)

// letters are symbols of each kind, the kinds mixed.
func letters() []api.Sym {
	return []api.Sym{
		{Name: "x", Kind: api.Plain},
		{Name: "a", Kind: api.Closes},
		{Name: "a", Kind: api.Opens},
		{Name: "y", Kind: api.Plain},
		{Name: "b", Kind: api.Opens},
		{Name: "b", Kind: api.Closes},
	}
}

func none() api.Expr             { return api.Expr{Kind: api.ENone} }
func void() api.Expr             { return api.Expr{Kind: api.EVoid} }
func sym(n int) api.Expr         { return api.Expr{Kind: api.ESym, Sym: n} }
func cat(l ...api.Expr) api.Expr { return api.Expr{Kind: api.ECat, L: l} }
func or(l ...api.Expr) api.Expr  { return api.Expr{Kind: api.EOr, L: l} }
func star(e api.Expr) api.Expr   { return api.Expr{Kind: api.EStar, L: []api.Expr{e}} }
func nest(from, to int, e api.Expr) api.Expr {
	return api.Expr{Kind: api.ENest, Sym: from, End: to, L: []api.Expr{e}}
}

// nests is e with n nests about it.
func nests(n int, e api.Expr) api.Expr {
	for range n {
		e = nest(openA, shutB, e)
	}
	return e
}

// stars is e with n stars about it.
func stars(n int, e api.Expr) api.Expr {
	for range n {
		e = star(e)
	}
	return e
}

// many are n expressions, all e.
func many(n int, e api.Expr) []api.Expr { return slices.Repeat([]api.Expr{e}, n) }

// anyExpr is one of at most deep levels; in a nest, or not.
func anyExpr(r *rand.Rand, deep int, nested bool) api.Expr {
	kinds := 20
	if deep == 1 {
		kinds = 7
	}
	switch k := r.Intn(kinds); k {
	case 0:
		return none()
	case 1, 2:
		return void()
	case 3, 4, 5, 6:
		if nested {
			return sym([]int{x, y}[r.Intn(2)])
		}
		return sym(r.Intn(len(letters())))
	case 7, 8, 9, 10:
		return nest([]int{openA, openB}[r.Intn(2)], []int{shutA, shutB}[r.Intn(2)], anyExpr(r, deep-1, true))
	case 11, 12, 13:
		return star(anyExpr(r, deep-1, nested))
	default:
		var l []api.Expr
		for range 2 + r.Intn(3) {
			l = append(l, anyExpr(r, deep-1, nested))
		}
		if k < 17 {
			return or(l...)
		}
		return cat(l...)
	}
}

// some goes through n expressions of all sizes.
func some(seed int64, n int, tell func(r *rand.Rand, e api.Expr)) {
	r := rand.New(rand.NewSource(seed))
	for range n {
		if e := anyExpr(r, 1+r.Intn(6), false); expr.Check(letters(), e) == api.OK {
			tell(r, e)
		}
	}
}

// parsed is what a text writes.
func parsed(t *testing.T, s string) api.Expr {
	t.Helper()
	e, _, err := expr.Parse(letters(), s)
	if err != api.OK {
		t.Fatalf("Parse of %q: %v", s, err)
	}
	return e
}

// same tells whether a and b are one machine; no list is an empty one.
func same(a, b api.Auto) bool {
	return a.N == b.N && a.G == b.G && slices.Equal(a.Init, b.Init) && slices.Equal(a.Final, b.Final) &&
		slices.Equal(a.Opens, b.Opens) && slices.Equal(a.Closes, b.Closes) && slices.Equal(a.Inners, b.Inners)
}

// wordOf is a word of e, its stars gone around up to twice; false: none was found, as a part has none.
func wordOf(r *rand.Rand, e api.Expr) ([]int, bool) {
	parts := e.L
	switch e.Kind {
	case api.ENone:
		return nil, false
	case api.ESym:
		return []int{e.Sym}, true
	case api.ENest:
		w, ok := wordOf(r, e.L[0])
		return slices.Concat([]int{e.Sym}, w, []int{e.End}), ok
	case api.EOr:
		return wordOf(r, e.L[r.Intn(len(e.L))])
	case api.EStar:
		parts = many(r.Intn(3), e.L[0])
	}
	var w []int
	for _, part := range parts {
		v, ok := wordOf(r, part)
		if !ok {
			return nil, false
		}
		w = append(w, v...)
	}
	return w, true
}

// changed is w with one symbol set, left out or put in.
func changed(r *rand.Rand, w []int) []int {
	at, s := r.Intn(len(w)+1), r.Intn(len(letters()))
	switch r.Intn(3) {
	case 0:
		return slices.Insert(slices.Clone(w), at, s)
	case 1:
		return slices.Delete(slices.Clone(w), min(at, max(len(w)-1, 0)), min(at+1, len(w)))
	}
	w = slices.Clone(w)
	if at < len(w) {
		w[at] = s
	}
	return w
}

// room is l with spare room behind it, filled with v.
func room[T any](l []T, v T) []T {
	out := slices.Grow(slices.Clone(l), 8)
	for i := len(out); i < cap(out); i++ {
		out[:cap(out)][i] = v
	}
	return out
}

// roomy is e, each list of it with spare room behind it, filled with v.
func roomy(e, v api.Expr) api.Expr {
	e.L = room(e.L, v)
	for i := range e.L {
		e.L[i] = roomy(e.L[i], v)
	}
	return e
}

// sameRoom tells whether two expressions are one, and what is in their spare room too.
func sameRoom(e, f api.Expr) bool {
	return e.Kind == f.Kind && e.Sym == f.Sym && e.End == f.End && len(e.L) == len(f.L) && slices.EqualFunc(e.L[:cap(e.L)], f.L[:cap(f.L)], sameRoom)
}

// spoil writes v over all lists of e, their spare room too.
func spoil(e, v api.Expr) {
	for _, part := range e.L {
		spoil(part, v)
	}
	over(e.L, v)
}

// over writes v over l, its spare room too.
func over[T any](l []T, v T) {
	l = l[:cap(l)]
	for i := range l {
		l[i] = v
	}
}

// ruin writes over all lists of a, their spare room too.
func ruin(a api.Auto) {
	over(a.Init, -7)
	over(a.Final, -7)
	over(a.Opens, api.Open{From: -7, Sym: -7, To: -7, Push: -7})
	over(a.Closes, api.Close{From: -7, Sym: -7, Top: -7, To: -7})
	over(a.Inners, api.Inner{From: -7, Sym: -7, To: -7})
}
