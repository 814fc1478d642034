package marks_test

import (
	"maps"
	"math/rand"
	"slices"
	"testing"

	"canopy/api"
	"canopy/expr"
	"canopy/marks"
)

// Places of letters' symbols.
const (
	x = iota
	shutA
	openA
	y
	openB
	shutB
)

// letters are symbols of each kind, the kinds mixed.
func letters() []api.Sym {
	return []api.Sym{
		{Name: "x", Kind: api.Plain},
		{Name: "a", Kind: api.Closes},
		{Name: "a", Kind: api.Opens},
		{Name: "y", Kind: api.Plain},
		{Name: "b", Kind: api.Opens},
		{Name: "b", Kind: api.Closes},
	}
}

func none() api.Expr             { return api.Expr{Kind: api.ENone} }
func void() api.Expr             { return api.Expr{Kind: api.EVoid} }
func sym(n int) api.Expr         { return api.Expr{Kind: api.ESym, Sym: n} }
func cat(l ...api.Expr) api.Expr { return api.Expr{Kind: api.ECat, L: l} }
func or(l ...api.Expr) api.Expr  { return api.Expr{Kind: api.EOr, L: l} }
func star(e api.Expr) api.Expr   { return api.Expr{Kind: api.EStar, L: []api.Expr{e}} }
func nest(from, to int, e api.Expr) api.Expr {
	return api.Expr{Kind: api.ENest, Sym: from, End: to, L: []api.Expr{e}}
}

// nests is e with n nests about it.
func nests(n int, e api.Expr) api.Expr {
	for range n {
		e = nest(openA, shutB, e)
	}
	return e
}

// many are n expressions, all e.
func many(n int, e api.Expr) []api.Expr { return slices.Repeat([]api.Expr{e}, n) }

// anyExpr is one of at most deep levels; in a nest, or not; with parts that have no word, or without.
func anyExpr(r *rand.Rand, deep int, nested, empty bool) api.Expr {
	kinds := 18
	if deep == 1 {
		kinds = 6
	}
	switch k := r.Intn(kinds); k {
	case 0:
		if empty {
			return none()
		}
		return void()
	case 1, 2:
		return void()
	case 3, 4, 5:
		if nested {
			return sym([]int{x, y}[r.Intn(2)])
		}
		return sym(r.Intn(len(letters())))
	case 6, 7, 8:
		return nest([]int{openA, openB}[r.Intn(2)], []int{shutA, shutB}[r.Intn(2)], anyExpr(r, deep-1, true, empty))
	case 9, 10, 11:
		return star(anyExpr(r, deep-1, nested, empty))
	default:
		var l []api.Expr
		for range 2 + r.Intn(3) {
			l = append(l, anyExpr(r, deep-1, nested, empty))
		}
		if k < 15 {
			return or(l...)
		}
		return cat(l...)
	}
}

// some goes through n expressions of all sizes.
func some(seed int64, n int, empty bool, tell func(r *rand.Rand, e api.Expr)) {
	r := rand.New(rand.NewSource(seed))
	for range n {
		if e := anyExpr(r, 1+r.Intn(6), false, empty); expr.Check(letters(), e) == api.OK {
			tell(r, e)
		}
	}
}

// answers are those of all calls.
type answers struct {
	of          []marks.Mark
	void        bool
	first, last []int
	next        []api.Pair
}

// asked asks all calls.
func asked(l []api.Sym, e api.Expr) answers {
	return answers{marks.Of(l, e), marks.Void(e), marks.First(l, e), marks.Last(l, e), marks.Next(l, e)}
}

// same tells whether the answers are.
func (a answers) same(b answers) bool {
	return slices.Equal(a.of, b.of) && a.void == b.void && slices.Equal(a.first, b.first) && slices.Equal(a.last, b.last) && slices.Equal(a.next, b.next)
}

// parsed is what a text writes.
func parsed(t *testing.T, s string) api.Expr {
	t.Helper()
	e, _, err := expr.Parse(letters(), s)
	if err != api.OK {
		t.Fatalf("Parse of %q: %v", s, err)
	}
	return e
}

// plain is what the promises say, by sets of numbers: each part asks each pair of its own parts.
type plain struct {
	of          []marks.Mark
	void        bool
	first, last map[int]bool
	next        map[api.Pair]bool
}

// plainOf is that of e, its places numbered from a number on.
func plainOf(e api.Expr, from int) plain {
	p := plain{first: map[int]bool{}, last: map[int]bool{}, next: map[api.Pair]bool{}}
	switch e.Kind {
	case api.ESym:
		p.of = []marks.Mark{{Sym: e.Sym, With: -1}}
		p.first[from], p.last[from] = true, true
		return p
	case api.ENest:
		in := plainOf(e.L[0], from+1)
		to := from + 1 + len(in.of)
		p.of = slices.Concat([]marks.Mark{{Sym: e.Sym, With: to}}, in.of, []marks.Mark{{Sym: e.End, With: from}})
		p.first[from], p.last[to] = true, true
		maps.Copy(p.next, in.next)
		for n := range in.first {
			p.next[api.Pair{A: from, B: n}] = true
		}
		for n := range in.last {
			p.next[api.Pair{A: n, B: to}] = true
		}
		if in.void {
			p.next[api.Pair{A: from, B: to}] = true
		}
		return p
	}
	var parts []plain
	for _, f := range e.L {
		q := plainOf(f, from+len(p.of))
		parts = append(parts, q)
		p.of = append(p.of, q.of...)
		maps.Copy(p.next, q.next)
	}
	voids := func(l []plain) bool { return !slices.ContainsFunc(l, func(q plain) bool { return !q.void }) }
	for i, q := range parts {
		if e.Kind != api.ECat || voids(parts[:i]) {
			maps.Copy(p.first, q.first)
		}
		if e.Kind != api.ECat || voids(parts[i+1:]) {
			maps.Copy(p.last, q.last)
		}
		for j := range parts {
			if e.Kind == api.EStar || e.Kind == api.ECat && i < j && voids(parts[i+1:j]) {
				p.bind(q.last, parts[j].first)
			}
		}
	}
	switch e.Kind {
	case api.EVoid, api.EStar:
		p.void = true
	case api.ECat:
		p.void = voids(parts)
	case api.EOr:
		p.void = slices.ContainsFunc(parts, func(q plain) bool { return q.void })
	}
	return p
}

// bind sets each of some places behind each of others.
func (p plain) bind(ahead, behind map[int]bool) {
	for a := range ahead {
		for b := range behind {
			p.next[api.Pair{A: a, B: b}] = true
		}
	}
}

// answers are those that p says.
func (p plain) answers() answers {
	next := listed(p.next)
	slices.SortFunc(next, func(a, b api.Pair) int {
		if a.A == b.A {
			return a.B - b.B
		}
		return a.A - b.A
	})
	first, last := listed(p.first), listed(p.last)
	slices.Sort(first)
	slices.Sort(last)
	return answers{p.of, p.void, first, last, next}
}

// listed is what a set has.
func listed[T comparable](s map[T]bool) []T {
	var l []T
	for k := range s {
		l = append(l, k)
	}
	return l
}

// named is e with the numbers of its places as symbols, from a number on, and the number behind them.
func named(e api.Expr, from int) (api.Expr, int) {
	switch e.Kind {
	case api.ESym, api.ENest:
		e.Sym = from
		from++
	}
	e.L = slices.Clone(e.L)
	for i := range e.L {
		e.L[i], from = named(e.L[i], from)
	}
	if e.Kind == api.ENest {
		e.End = from
		from++
	}
	return e, from
}

// words are those of e in which each star goes around twice at most; false: they are more than so many.
func words(e api.Expr, most int) ([][]int, bool) {
	var parts [][][]int
	for _, f := range e.L {
		w, ok := words(f, most)
		if !ok {
			return nil, false
		}
		parts = append(parts, w)
	}
	nothing := [][]int{nil}
	switch e.Kind {
	case api.EVoid:
		return nothing, true
	case api.ESym:
		return [][]int{{e.Sym}}, true
	case api.EOr:
		w := slices.Concat(parts...)
		return w, len(w) <= most
	case api.ENest:
		parts = [][][]int{{{e.Sym}}, parts[0], {{e.End}}}
	case api.EStar:
		around := slices.Concat(nothing, parts[0])
		parts = [][][]int{around, around}
	}
	out := nothing
	for _, part := range parts {
		var w [][]int
		if len(out)*len(part) > most {
			return nil, false
		}
		for _, a := range out {
			for _, b := range part {
				w = append(w, slices.Concat(a, b))
			}
		}
		out = w
	}
	return out, true
}

// room is l with spare room behind it, filled with v.
func room[T any](l []T, v T) []T {
	out := slices.Grow(slices.Clone(l), 8)
	for i := len(out); i < cap(out); i++ {
		out[:cap(out)][i] = v
	}
	return out
}

// roomy is e, each list of it with spare room behind it, filled with v.
func roomy(e, v api.Expr) api.Expr {
	e.L = room(e.L, v)
	for i := range e.L {
		e.L[i] = roomy(e.L[i], v)
	}
	return e
}

// sameRoom tells whether two expressions are one, and what is in their spare room too.
func sameRoom(e, f api.Expr) bool {
	return e.Kind == f.Kind && e.Sym == f.Sym && e.End == f.End && len(e.L) == len(f.L) && slices.EqualFunc(e.L[:cap(e.L)], f.L[:cap(f.L)], sameRoom)
}

// spoil writes v over all lists of e, their spare room too.
func spoil(e, v api.Expr) {
	for _, part := range e.L {
		spoil(part, v)
	}
	over(e.L, v)
}

// over writes v over l, its spare room too.
func over[T any](l []T, v T) {
	l = l[:cap(l)]
	for i := range l {
		l[i] = v
	}
}
