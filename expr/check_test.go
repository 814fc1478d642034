package expr_test

import (
	"math/rand"
	"slices"
	"testing"

	"canopy/api"
	"canopy/expr"
)

// bent is e with other numbers in place.
func bent(e api.Expr, kind, sym, end int) api.Expr {
	e.Kind, e.Sym, e.End = kind, sym, end
	return e
}

// P501: how many, and how deep.
func TestCheckSize(t *testing.T) {
	kindless := api.Expr{}
	for _, c := range []struct {
		what string
		e    api.Expr
		want api.Errno
	}{
		{"1 level", sym(x), api.OK},
		{"20 levels", stars(19), api.OK},
		{"21 levels", stars(20), api.TooDeep},
		{"1000 levels", stars(999), api.TooDeep},
		{"20 levels of nests", nests(19), api.OK},
		{"21 levels of nests", nests(20), api.TooDeep},
		{"21 levels, the last part", cat(sym(x), or(sym(x), stars(18))), api.TooDeep},
		{"20 levels, the last part", cat(sym(x), or(sym(x), stars(17))), api.OK},
		{"21 levels, the first part", cat(stars(19), sym(x)), api.TooDeep},
		{"21 levels, between", or(sym(x), stars(19), sym(x)), api.TooDeep},
		{"21 levels in what has none", api.Expr{Kind: api.EVoid, L: []api.Expr{stars(19)}}, api.TooDeep},
		{"200 nodes", wide(199), api.OK},
		{"201 nodes", wide(200), api.TooLong},
		{"200 nodes of two levels", cat(wide(98), wide(98), sym(x)), api.OK},
		{"201 nodes of two levels", cat(wide(98), wide(99), sym(x)), api.TooLong},
		{"200 nodes of 20 levels", cat(stars(18), wide(179)), api.OK},
		{"201 nodes of 20 levels", cat(stars(18), wide(180)), api.TooLong},
		{"201 nodes in what has none", api.Expr{Kind: api.ESym, L: wide(200).L}, api.TooLong},
		{"deep ahead of long", cat(wide(300), stars(19)), api.TooDeep},
		{"deep ahead of kind", cat(kindless, stars(19)), api.TooDeep},
		{"long ahead of kind", cat(kindless, wide(300)), api.TooLong},
		{"long ahead of name", cat(sym(99), wide(300)), api.TooLong},
	} {
		if got := expr.Check(letters(), c.e); got != c.want {
			t.Errorf("Check of %s: %v, not %v", c.what, got, c.want)
		}
	}
}

// nests is sym(x) in n nests.
func nests(n int) api.Expr {
	e := sym(x)
	for range n {
		e = nest(openA, shutA, e)
	}
	return e
}

// P501: each kind, with each number of parts, and each field that is none of its.
func TestCheckKind(t *testing.T) {
	parts := []api.Expr{sym(x), void(), none(), star(sym(a))}
	for kind := -2; kind < 12; kind++ {
		for n := range len(parts) + 1 {
			least, most := 0, 0
			begins, ends := 0, 0
			switch kind {
			case api.ESym:
				begins = x
			case api.ENest:
				least, most, begins, ends = 1, 1, openA, shutA
			case api.ECat, api.EOr:
				least, most = 2, len(parts)
			case api.EStar:
				least, most = 1, 1
			}
			e := api.Expr{Kind: kind, Sym: begins, End: ends, L: parts[:n]}
			fits := api.ENone <= kind && kind <= api.EStar && least <= n && n <= most
			if got := expr.Check(letters(), e); (got == api.OK) != fits || !fits && got != api.BadKind {
				t.Errorf("Check of kind %d with %d: %v", kind, n, got)
			}
			for _, v := range []int{1, -1, 1 << 62, -1 << 63} {
				if kind != api.ESym && kind != api.ENest && expr.Check(letters(), bent(e, kind, v, 0)) != api.BadKind {
					t.Errorf("Check of kind %d with %d, Sym %d: %v", kind, n, v, expr.Check(letters(), bent(e, kind, v, 0)))
				}
				if kind != api.ENest && expr.Check(letters(), bent(e, kind, begins, v)) != api.BadKind {
					t.Errorf("Check of kind %d with %d, End %d: %v", kind, n, v, expr.Check(letters(), bent(e, kind, begins, v)))
				}
			}
		}
	}
	for _, kind := range []int{1 << 62, -1 << 63, 8, 0} {
		if got := expr.Check(letters(), api.Expr{Kind: kind}); got != api.BadKind {
			t.Errorf("Check of kind %d: %v", kind, got)
		}
		if got := expr.Check(letters(), cat(sym(x), star(api.Expr{Kind: kind}))); got != api.BadKind {
			t.Errorf("Check of kind %d within: %v", kind, got)
		}
	}
}

// P501: symbols that are not, or not of that kind.
func TestCheckName(t *testing.T) {
	for n := -3; n < 12; n++ {
		want := api.OK
		if n < 0 || n >= len(letters()) {
			want = api.NoName
		}
		if got := expr.Check(letters(), sym(n)); got != want {
			t.Errorf("Check of symbol %d: %v, not %v", n, got, want)
		}
		if got := expr.Check(letters(), cat(void(), or(none(), star(sym(n))))); got != want {
			t.Errorf("Check of symbol %d within: %v, not %v", n, got, want)
		}
		for m := -3; m < 12; m++ {
			want := api.NoName
			if (n == openA || n == openB) && (m == shutA || m == shutZ) {
				want = api.OK
			}
			if got := expr.Check(letters(), nest(n, m, sym(x))); got != want {
				t.Errorf("Check of nest %d, %d: %v, not %v", n, m, got, want)
			}
			if got := expr.Check(letters(), nest(openA, shutA, star(nest(n, m, sym(x))))); got != want {
				t.Errorf("Check of nest %d, %d within: %v, not %v", n, m, got, want)
			}
		}
	}
	far := []int{1 << 62, -1 << 63, 1 << 32, 1<<63 - 1}
	for _, n := range far {
		if expr.Check(letters(), sym(n)) != api.NoName || expr.Check(letters(), nest(n, shutA, void())) != api.NoName || expr.Check(letters(), nest(openA, n, void())) != api.NoName {
			t.Errorf("Check of symbol %d: %v", n, expr.Check(letters(), sym(n)))
		}
	}
}

// P501: symbols that open or close within a nest; and which error is ahead of which.
func TestCheckLoose(t *testing.T) {
	kindless := api.Expr{Kind: 9}
	for _, c := range []struct {
		what string
		e    api.Expr
		want api.Errno
	}{
		{"plain in a nest", nest(openA, shutA, sym(y)), api.OK},
		{"opening in a nest", nest(openA, shutA, sym(openA)), api.Loose},
		{"closing in a nest", nest(openA, shutA, sym(shutZ)), api.Loose},
		{"another one that opens", nest(openA, shutA, sym(openB)), api.Loose},
		{"deep in a nest", nest(openA, shutA, cat(sym(x), star(or(void(), sym(shutA))))), api.Loose},
		{"in a nest in a nest", nest(openA, shutA, nest(openB, shutZ, sym(openA))), api.Loose},
		{"beside a nest in a nest", nest(openA, shutA, cat(nest(openB, shutZ, void()), sym(openA))), api.Loose},
		{"in the second nest", cat(nest(openA, shutA, void()), nest(openA, shutA, sym(openA))), api.Loose},
		{"in a nest in a star", star(nest(openA, shutA, sym(openA))), api.Loose},
		{"beside a nest", cat(sym(openA), nest(openA, shutA, sym(x)), sym(shutZ)), api.OK},
		{"in no nest", or(sym(openA), star(sym(shutA)), cat(sym(openB), sym(shutZ))), api.OK},
		{"name ahead of loose", cat(nest(openA, shutA, sym(openA)), sym(99)), api.NoName},
		{"name ahead of loose, in it", nest(openA, shutA, cat(sym(openA), sym(-1))), api.NoName},
		{"name of a nest ahead of loose", nest(shutA, openA, sym(openA)), api.NoName},
		{"kind ahead of name", cat(sym(99), kindless), api.BadKind},
		{"kind ahead of loose", cat(nest(openA, shutA, sym(openA)), kindless), api.BadKind},
	} {
		if got := expr.Check(letters(), c.e); got != c.want {
			t.Errorf("Check of %s: %v, not %v", c.what, got, c.want)
		}
	}
}

// found is a node of an expression: how deep it is, and whether in a nest.
type found struct {
	e      api.Expr
	deep   int
	nested bool
}

// flat are all nodes of an expression.
func flat(e api.Expr, deep int, nested bool) []found {
	l := []found{{e, deep, nested}}
	for _, part := range e.L {
		l = append(l, flat(part, deep+1, nested || e.Kind == api.ENest)...)
	}
	return l
}

// checked is Check by other means: each error's nodes are looked for in a list of all.
func checked(e api.Expr) api.Errno {
	l := flat(e, 1, false)
	plain, opening, closing := []int{x, a, y}, []int{openA, openB}, []int{shutA, shutZ}
	has := func(wrong func(f found) bool) bool { return slices.ContainsFunc(l, wrong) }
	switch {
	case has(func(f found) bool { return f.deep > 20 }):
		return api.TooDeep
	case len(l) > 200:
		return api.TooLong
	case has(func(f found) bool {
		most := []int{-1, 0, 0, 0, 1, 1000, 1000, 1}
		least := []int{0, 0, 0, 0, 1, 2, 2, 1}
		k, n := f.e.Kind, len(f.e.L)
		return k < 1 || k > 7 || n < least[k] || n > most[k] || k != api.ESym && k != api.ENest && f.e.Sym != 0 || k != api.ENest && f.e.End != 0
	}):
		return api.BadKind
	case has(func(f found) bool {
		all := slices.Concat(plain, opening, closing)
		return f.e.Kind == api.ESym && !slices.Contains(all, f.e.Sym) || f.e.Kind == api.ENest && !(slices.Contains(opening, f.e.Sym) && slices.Contains(closing, f.e.End))
	}):
		return api.NoName
	case has(func(f found) bool { return f.nested && f.e.Kind == api.ESym && !slices.Contains(plain, f.e.Sym) }):
		return api.Loose
	}
	return api.OK
}

// spoilt is e with a number or a list of some node changed.
func spoilt(r *rand.Rand, e api.Expr) api.Expr {
	if len(e.L) > 0 && r.Intn(4) > 0 {
		e.L = slices.Clone(e.L)
		i := r.Intn(len(e.L))
		e.L[i] = spoilt(r, e.L[i])
		return e
	}
	switch r.Intn(5) {
	case 0:
		e.Kind = r.Intn(10) - 1
	case 1:
		e.Sym = r.Intn(10) - 1
	case 2:
		e.End = r.Intn(10) - 1
	case 3:
		e.L = slices.Concat(e.L, []api.Expr{anyExpr(r, 2, false)})
	case 4:
		e.L = e.L[:len(e.L)/2]
	}
	return e
}

// P501, P3: any expressions, and what is nearly one.
func TestCheckAny(t *testing.T) {
	r := rand.New(rand.NewSource(1))
	count := map[api.Errno]int{}
	for range 30000 {
		e := anyExpr(r, 1+r.Intn(7), r.Intn(2) == 0)
		for range r.Intn(3) {
			e = spoilt(r, e)
		}
		for range r.Intn(20) * r.Intn(2) {
			e = star(e)
		}
		if r.Intn(20) == 0 {
			e = cat(e, wide(150+r.Intn(50)))
		}
		got, want := expr.Check(letters(), e), checked(e)
		if got != want || expr.Check(letters(), e) != got {
			t.Fatalf("Check of %v: %v, not %v", e, got, want)
		}
		count[got]++
	}
	for _, err := range []api.Errno{api.OK, api.TooDeep, api.TooLong, api.BadKind, api.NoName, api.Loose} {
		if count[err] < 20 {
			t.Errorf("%v comes %d times", err, count[err])
		}
	}
}

// P1: what holds a list many times, or itself, is looked through, too.
func TestCheckShared(t *testing.T) {
	doubled := func(levels, width int) api.Expr {
		e := sym(x)
		for range levels - 1 {
			e = or(slices.Repeat([]api.Expr{e}, width)...)
		}
		return e
	}
	around := []api.Expr{{Kind: api.EStar}}
	around[0].L = around
	// The short list begins where the long one does, and comes ahead of it.
	list := []api.Expr{sym(x), stars(18)}
	short, long := api.Expr{Kind: api.EStar, L: list[:1]}, or(list...)
	for _, c := range []struct {
		what string
		e    api.Expr
		want api.Errno
	}{
		{"2 in each of 1000", doubled(1000, 2), api.TooDeep},
		{"2 in each of 21", doubled(21, 2), api.TooDeep},
		{"2 in each of 20", doubled(20, 2), api.TooLong},
		{"500 in each of 20", doubled(20, 500), api.TooLong},
		{"500 in each of 19, then two levels", or(doubled(19, 500), stars(19)), api.TooDeep},
		{"2 in each of 7", doubled(7, 2), api.OK},
		{"itself", around[0], api.TooDeep},
		{"a list and its front, 20 levels", or(short, stars(17)), api.OK},
		{"a list and its front, 21 levels", or(short, long), api.TooDeep},
		{"a front and its list, 21 levels", or(long, short), api.TooDeep},
	} {
		if got := expr.Check(letters(), c.e); got != c.want {
			t.Errorf("Check of %s: %v, not %v", c.what, got, c.want)
		}
		if s, has := expr.Text(letters(), c.e), expr.Has(c.e, []int{x}); c.want != api.OK && (s != "" || has) {
			t.Errorf("Text, Has of %s: %q, %v", c.what, s, has)
		}
	}
}
