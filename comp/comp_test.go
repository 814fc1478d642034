package comp_test

import (
	"fmt"
	"math"
	"math/rand"
	"slices"
	"testing"

	"canopy/api"
	"canopy/auto"
	"canopy/comp"
	"canopy/expr"
	"canopy/runs"
)

// P701
func TestMake(t *testing.T) {
	for _, c := range []struct{ s, want string }{
		{"0", "{1 1 [0] [] [] [] []}"},
		{"1", "{1 1 [0] [0] [] [] []}"},
		{"0*", "{1 1 [0] [0] [] [] []}"},
		{"0 1", "{1 1 [0] [] [] [] []}"},
		{"x", "{2 1 [0] [1] [] [] [{0 0 1}]}"},
		{"x*", "{2 1 [0] [0 1] [] [] [{0 0 1} {1 0 1}]}"},
		{"x 0", "{2 1 [0] [] [] [] [{0 0 1}]}"},
		{"0 x", "{2 1 [0] [1] [] [] []}"},
		{"x x", "{3 1 [0] [2] [] [] [{0 0 1} {1 0 2}]}"},
		{"y | x", "{3 1 [0] [1 2] [] [] [{0 0 2} {0 3 1}]}"},
		{"x | 1 | x", "{3 1 [0] [0 1 2] [] [] [{0 0 1} {0 0 2}]}"},
		{"( x y )*", "{3 1 [0] [0 2] [] [] [{0 0 1} {1 3 2} {2 0 1}]}"},
		{"<a>", "{2 1 [0] [1] [{0 2 1 1}] [] []}"},
		{"<b>*", "{2 1 [0] [0 1] [{0 4 1 1} {1 4 1 1}] [] []}"},
		{"</a>", "{2 1 [0] [1] [] [{0 1 0 1} {0 1 1 1}] []}"},
		{"</b> | </b>", "{3 1 [0] [1 2] [] [{0 5 0 1} {0 5 0 2} {0 5 1 1} {0 5 1 2}] []}"},
		{"<a> x </b>", "{4 1 [0] [3] [{0 2 1 1}] [{2 5 0 3} {2 5 1 3}] [{1 0 2}]}"},
		{"<a[ 1 ]a>", "{3 2 [0] [2] [{0 2 1 2}] [{1 1 2 2}] []}"},
		{"<a[ 0 ]b>", "{3 2 [0] [2] [{0 2 1 2}] [] []}"},
		{"<b[ x ]a>*", "{4 2 [0] [0 3] [{0 4 1 2} {3 4 1 2}] [{2 1 2 3}] [{1 0 2}]}"},
		{"<a[ <b[ 1 ]b> ]a>", "{5 3 [0] [4] [{0 2 1 2} {1 4 2 3}] [{2 5 3 3} {3 1 2 4}] []}"},
		{"<a[ 1 ]a> <a[ 1 ]a>", "{5 3 [0] [4] [{0 2 1 2} {2 2 3 3}] [{1 1 2 2} {3 1 3 4}] []}"},
		{"<a[ <a[ 1 ]a> <a[ 1 ]a> ]a> | <b[ 1 ]b>", "{9 5 [0] [6 8] [{0 2 1 2} {0 4 7 5} {1 2 2 3} {3 2 4 4}] [{2 1 3 3} {4 1 4 5} {5 1 2 6} {7 5 5 8}] []}"},
		{"<a> <a[ 1 ]a> </a>", "{5 2 [0] [4] [{0 2 1 1} {1 2 2 2}] [{2 1 2 3} {3 1 0 4} {3 1 1 4}] []}"},
		{"x <b[ y* ]b>", "{5 2 [0] [4] [{1 4 2 2}] [{2 5 2 4} {3 5 2 4}] [{0 0 1} {2 3 3} {3 3 3}]}"},
	} {
		a, err := comp.Make(letters(), parsed(t, c.s), api.MaxStates)
		if got := fmt.Sprint(a); err != api.OK || got != c.want {
			t.Errorf("P701: Make of %q: %s (%v), not %s", c.s, got, err, c.want)
		}
	}
}

// P701: what Check answers goes ahead of Budget; beside an error there is nothing (P4).
func TestErrors(t *testing.T) {
	wide := or(many(199, sym(x))...)
	for i, c := range []struct {
		e    api.Expr
		most int
		want api.Errno
	}{
		{sym(x), 2, api.OK},
		{sym(x), 1, api.Budget},
		{sym(x), 0, api.Budget},
		{sym(x), -1, api.Budget},
		{sym(x), math.MinInt, api.Budget},
		{sym(x), math.MaxInt, api.OK},
		{none(), 1, api.OK},
		{none(), 0, api.Budget},
		{void(), 0, api.Budget},
		{nest(openA, shutA, void()), 3, api.OK},
		{nest(openA, shutA, void()), 2, api.Budget},
		{wide, 200, api.OK},
		{wide, 201, api.OK},
		{wide, 199, api.Budget},
		{wide, math.MaxInt, api.OK},
		{cat(many(10, nests(10, void()))...), math.MaxInt, api.Budget},
		{cat(append(many(9, nests(10, void())), nests(9, sym(x)))...), math.MaxInt, api.OK},
		{cat(append(many(9, nests(10, void())), nests(9, sym(x)), sym(y))...), 201, api.Budget},
		{stars(19, sym(x)), 2, api.OK},
		{stars(20, sym(x)), 0, api.TooDeep},
		{nests(20, void()), -1, api.TooDeep},
		{or(many(200, sym(x))...), 0, api.TooLong},
		{api.Expr{}, 0, api.BadKind},
		{api.Expr{Kind: 8}, 200, api.BadKind},
		{cat(sym(x)), 200, api.BadKind},
		{api.Expr{Kind: api.EVoid, Sym: 1}, -9, api.BadKind},
		{sym(6), 0, api.NoName},
		{sym(-1), 200, api.NoName},
		{nest(x, shutA, void()), 0, api.NoName},
		{nest(openA, openB, void()), 200, api.NoName},
		{nest(openA, shutA, sym(shutA)), 0, api.Loose},
		{nest(openA, shutA, star(sym(openA))), 200, api.Loose},
	} {
		a, err := comp.Make(letters(), c.e, c.most)
		if err != c.want {
			t.Errorf("P701: %d: %v, not %v", i, err, c.want)
		}
		if err != api.OK && !same(a, api.Auto{}) {
			t.Errorf("P4: %d: %v beside %v", i, a, err)
		}
	}
}

// P701: any expressions, held against what is made of sets; it is a machine, normed, and takes as many states as it has, no less.
func TestAny(t *testing.T) {
	some(1, 5000, func(r *rand.Rand, e api.Expr) {
		text, want := expr.Text(letters(), e), plainMachine(letters(), e)
		got, err := comp.Make(letters(), e, want.N)
		if err != api.OK || !same(got, want) {
			t.Fatalf("P701: %s: %v (%v), not %v", text, got, err, want)
		}
		if auto.Check(letters(), got) != api.OK || !same(auto.Norm(got), got) {
			t.Fatalf("P701: %s: %v is no machine that is normed", text, got)
		}
		if again, err := comp.Make(letters(), e, want.N+r.Intn(500)); err != api.OK || !same(again, got) {
			t.Fatalf("P3: %s: %v, then %v (%v)", text, got, again, err)
		}
		if a, err := comp.Make(letters(), e, want.N-1-r.Intn(3)); err != api.Budget || !same(a, api.Auto{}) {
			t.Fatalf("P701: %s: %v (%v) of less states", text, a, err)
		}
	})
}

// P702, T2: words that the expression has, such with one symbol changed, and any.
func TestWords(t *testing.T) {
	yes, nested, no := 0, 0, 0
	some(2, 4000, func(r *rand.Rand, e api.Expr) {
		a, err := comp.Make(letters(), e, api.MaxStates)
		if err != api.OK {
			t.Fatal(err)
		}
		for range 12 {
			w := make([]int, r.Intn(6))
			for i := range w {
				w[i] = r.Intn(len(letters()))
			}
			if v, ok := wordOf(r, e); ok && r.Intn(5) > 0 {
				w = v
				if r.Intn(2) > 0 {
					w = changed(r, w)
				}
			}
			if len(w) > 60 {
				continue
			}
			want := expr.Has(e, w)
			if got := runs.Takes(letters(), a, w); got != want {
				t.Fatalf("P702: %s, %v: %v", expr.Text(letters(), e), w, got)
			}
			switch {
			case !want:
				no++
			case slices.Contains(w, openA) || slices.Contains(w, openB):
				nested++
			default:
				yes++
			}
		}
	})
	if yes < 5000 || nested < 5000 || no < 10000 {
		t.Error(yes, nested, no)
	}
}

// P702, T2: all words of up to five symbols.
func TestShortWords(t *testing.T) {
	for _, s := range []string{
		"0", "1", "x*", "( x | <a> )* </a>*", "<a[ x* ]a>*", "<a[ x* ]b> | <a[ y ]a>",
		"<a[ <b[ 1 ]b>* ]a>*", "<a[ <a[ x | 1 ]a> | <a[ y | 1 ]b> ]a>", "</a>* <a>* <a[ 1 ]a> </a>*", "( <a> | </b> | <b[ 1 ]b> )*", "<a>* ( <a[ <b[ 1 ]a>* ]b> | </a> )*", "<a[ 0 ]a> | x 0 | y",
	} {
		e := parsed(t, s)
		a, err := comp.Make(letters(), e, api.MaxStates)
		if err != api.OK {
			t.Fatal(err)
		}
		row := [][]int{nil}
		for n := range 6 {
			var longer [][]int
			for _, w := range row {
				if got := runs.Takes(letters(), a, w); got != expr.Has(e, w) {
					t.Fatalf("P702: %s, %v: %v", s, w, got)
				}
				for k := range letters() {
					if n < 5 {
						longer = append(longer, append(slices.Clone(w), k))
					}
				}
			}
			row = longer
		}
	}
}

// P701: as many nodes, levels, states and rules as there may be.
func TestGreatest(t *testing.T) {
	for i, c := range []struct {
		e                    api.Expr
		states, marks, rules int
	}{
		{or(many(199, sym(x))...), 200, 1, 199},
		{cat(many(199, sym(shutB))...), 200, 1, 2 * 199},
		{star(or(many(198, sym(x))...)), 199, 1, 198 * 199},
		{star(or(many(198, sym(openB))...)), 199, 1, 198 * 199},
		{star(or(many(198, sym(shutA))...)), 199, 1, 2 * 198 * 199},
		{star(or(many(99, nest(openA, shutA, void()))...)), 199, 100, 99*99 + 2*99},
		{nests(19, sym(x)), 40, 20, 39},
		{nests(19, void()), 39, 20, 38},
		{cat(append(many(98, nest(openB, shutB, void())), star(sym(y)))...), 198, 99, 2*98 + 2},
	} {
		a, err := comp.Make(letters(), c.e, api.MaxStates)
		if n := len(a.Opens) + len(a.Closes) + len(a.Inners); err != api.OK || a.N != c.states || a.G != c.marks || n != c.rules {
			t.Errorf("P701: %d: %v, %d states, %d marks, %d rules", i, err, a.N, a.G, n)
		}
		if auto.Check(letters(), a) != api.OK || !same(a, plainMachine(letters(), c.e)) {
			t.Errorf("P701: %d: not what it says", i)
		}
	}
}

// P701: the symbols are those of l, whatever places they have there; the last of 20, too.
func TestTwentySymbols(t *testing.T) {
	var l []api.Sym
	for i := range api.MaxSyms {
		l = append(l, api.Sym{Name: string(rune('a' + i)), Kind: api.Plain})
	}
	l[0].Kind, l[18].Kind, l[19].Kind = api.Closes, api.Opens, api.Closes
	a, err := comp.Make(l, cat(sym(17), nest(18, 19, sym(1)), sym(0)), 6)
	if got := fmt.Sprint(a); err != api.OK || got != "{6 2 [0] [5] [{1 18 2 2}] [{3 19 2 4} {4 0 0 5} {4 0 1 5}] [{0 17 1} {2 1 3}]}" {
		t.Errorf("P701: %s (%v)", got, err)
	}
}

// P2: what is handed in stays, its spare room too, and is not kept.
func TestHandedIn(t *testing.T) {
	junk, bad := nest(7, 8, sym(9)), api.Sym{Name: "no", Kind: 7}
	some(3, 500, func(r *rand.Rand, e api.Expr) {
		l, f, g := room(letters(), bad), roomy(e, junk), roomy(e, junk)
		got, _ := comp.Make(l, f, api.MaxStates)
		if !sameRoom(f, g) {
			t.Fatalf("P2: %v is %v now", g, f)
		}
		if !slices.Equal(l[:cap(l)], room(letters(), bad)[:cap(l)]) {
			t.Fatalf("P2: %v is changed", l)
		}
		spoil(f, junk)
		over(l, bad)
		if want, _ := comp.Make(letters(), e, api.MaxStates); !same(got, want) {
			t.Fatalf("P2: %v is %v, once what was handed in is written over", want, got)
		}
	})
}

// P2: what is answered is new, its spare room too.
func TestAnswered(t *testing.T) {
	some(4, 500, func(r *rand.Rand, e api.Expr) {
		f := roomy(e, none())
		asked := func() api.Auto {
			a, _ := comp.Make(letters(), f, api.MaxStates)
			return a
		}
		want, spoilt, again := asked(), asked(), asked()
		ruin(spoilt)
		if !same(again, want) || !same(asked(), want) {
			t.Fatalf("P2: %v, after what was answered is written over", again)
		}
		if !sameRoom(f, roomy(e, none())) {
			t.Fatalf("P2: %v is %v now", e, f)
		}
		over(want.Init, -7)
		if !slices.Equal(want.Final[:cap(want.Final)], again.Final[:cap(want.Final)]) {
			t.Fatal("P2: two lists of one answer share room")
		}
	})
}

// P1, P8: whatever is handed in, each call ends, and leaves it as it was.
func TestWrong(t *testing.T) {
	around := make([]api.Expr, 2)
	around[0] = api.Expr{Kind: api.ECat, L: around}
	around[1] = api.Expr{Kind: api.EStar, L: around[:1]}
	ways := sym(x)
	for range 60 {
		ways = cat(ways, ways)
	}
	wrong := []api.Expr{
		around[0], around[1], ways, star(ways), stars(990, sym(x)), nests(900, void()),
		cat(many(100000, void())...), nests(1, or(many(300, sym(x))...)),
		sym(math.MaxInt), sym(math.MinInt), nest(-1, 1<<40, void()), nest(shutA, openA, void()),
		{}, {Kind: -1}, {Kind: math.MaxInt}, {Kind: api.ECat}, {Kind: api.EStar}, {Kind: api.ENest, Sym: openA, End: shutA},
		{Kind: api.ENest, Sym: openA, End: shutA, L: many(2, sym(x))}, or(api.Expr{Kind: 9, L: around}, sym(x)),
	}
	rows := [][]api.Sym{letters(), nil, {}, {{}}, {{Name: "x", Kind: -1}, {Name: "x", Kind: 9}}, slices.Repeat(letters(), 50)}
	for i, e := range wrong {
		for _, l := range rows {
			for _, most := range []int{math.MinInt, 0, 200, math.MaxInt} {
				if a, err := comp.Make(l, e, most); err == api.OK || !same(a, api.Auto{}) {
					t.Errorf("P701: %d: %v (%v)", i, a, err)
				}
			}
		}
	}
	if len(around[0].L) != 2 || len(around[1].L) != 1 || around[0].Kind != api.ECat || around[1].Kind != api.EStar {
		t.Error("P2: a list that holds itself is changed")
	}
	for _, l := range rows {
		for _, e := range []api.Expr{none(), void(), sym(0), sym(3), star(sym(299)), nest(openA, shutA, sym(x)), cat(void(), sym(openB))} {
			comp.Make(l, e, 200)
		}
	}
}
