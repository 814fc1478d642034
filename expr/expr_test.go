package expr_test

import (
	"slices"
	"strings"
	"testing"

	"canopy/api"
	"canopy/expr"
)

const long = "( <a[ x* | a ( x a ) | 0 ]a>* | x 1 ) </zz> ( a | ( x | a ) )"

// P2: what is handed in is as it was, its spare room too, and so is it once the answers are written over.
func TestHandedInStays(t *testing.T) {
	l, w := room(letters(), api.Sym{Name: "q", Kind: 9}), room([]int{openA, x, shutA, shutZ, a}, 77)
	e, _, err := expr.Parse(l, long)
	if err != api.OK {
		t.Fatal(err)
	}
	e = roomy(e, sym(-7))
	wasL, wasW, wasE := slices.Clone(l[:cap(l)]), slices.Clone(w[:cap(w)]), roomy(e, sym(-7))
	answers := func() (api.Expr, api.Errno, string, bool) {
		f, _, _ := expr.Parse(l, long)
		return f, expr.Check(l, e), expr.Text(l, e), expr.Has(e, w)
	}
	f, check, text, has := answers()
	if !same(f, e) || check != api.OK || text != long || !has {
		t.Errorf("%v, %v, %q, %v", f, check, text, has)
	}
	spoil(f, sym(-5))
	if !slices.Equal(l[:cap(l)], wasL) || !slices.Equal(w[:cap(w)], wasW) || !sameRoom(e, wasE) {
		t.Errorf("what was handed in is changed: %v, %v, %v", l[:cap(l)], w[:cap(w)], e)
	}
	if g, again, s, has := answers(); !same(g, e) || again != check || s != text || !has {
		t.Errorf("answered once more: %v, %v, %q, %v", g, again, s, has)
	}
}

// P2: no two lists of an answer share anything, their spare room too; and that is empty.
func TestAnswerSharesNothing(t *testing.T) {
	for _, s := range []string{long, "x a x a x | x | x a* (x | a) | (a | x a x)", "((x a)* | (x a x a x)) a x* (1 | <a[x|x|x|x]a>)", "x" + strings.Repeat("*", 19)} {
		e, _, err := expr.Parse(letters(), s)
		if err != api.OK {
			t.Fatalf("Parse of %q: %v", s, err)
		}
		var lists [][]api.Expr
		var gather func(e api.Expr)
		gather = func(e api.Expr) {
			for _, part := range e.L {
				gather(part)
			}
			lists = append(lists, e.L[:cap(e.L)])
			for _, spare := range e.L[len(e.L):cap(e.L)] {
				if !same(spare, api.Expr{}) {
					t.Errorf("in the spare room: %v", spare)
				}
			}
		}
		gather(e)
		for i, l := range lists {
			for k := range l {
				l[k] = sym(1000 + i)
			}
		}
		for i, l := range lists {
			for k := range l {
				if l[k].Sym != 1000+i {
					t.Errorf("%q: lists share room", s)
				}
			}
		}
	}
}

// P1, P8: what may not be does no harm.
func TestWhatMayNotBe(t *testing.T) {
	rows := [][]api.Sym{nil, letters(), {{Name: "", Kind: 0}, {Name: "\xff", Kind: -9}, {Name: "a", Kind: 3}, {Name: "a", Kind: 3}, {Name: "x", Kind: 4}, {}}, make([]api.Sym, 50)}
	w := []int{0, -1, 1, 1 << 62, -1 << 63, 5, 3, 49, 6, 0}
	wrong := []api.Expr{{}, {Kind: -1}, {Kind: 8}, sym(-1), sym(1 << 62), sym(6), nest(-1, 99, sym(x)), nest(1<<62, -1<<63, void()), nest(openA, shutA, sym(openA)), {Kind: api.ENest}, {Kind: api.EStar}, {Kind: api.ECat}, {Kind: api.EOr, L: []api.Expr{{}}}, cat(api.Expr{}, nest(0, 0, api.Expr{})), stars(999), wide(100000)}
	for _, l := range rows {
		for _, e := range wrong {
			was := copied(e)
			expr.Check(l, e)
			expr.Text(l, e)
			expr.Has(e, w)
			expr.Has(e, nil)
			if !same(e, was) {
				t.Errorf("the expression is changed: %v", e)
			}
		}
		for _, s := range []string{"", "a", "x", "<a> b </c>", "<a[x]a>", "<[x]>", "\xff", strings.Repeat("<", 3000), strings.Repeat("(", 2000)} {
			if _, at, _ := expr.Parse(l, s); at < 0 || at > len(s) {
				t.Errorf("Parse of %.20q: %d", s, at)
			}
		}
		if !slices.Equal(w, []int{0, -1, 1, 1 << 62, -1 << 63, 5, 3, 49, 6, 0}) {
			t.Errorf("the word is changed: %v", w)
		}
	}
}
