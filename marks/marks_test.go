package marks_test

import (
	"fmt"
	"math/rand"
	"slices"
	"testing"

	"canopy/api"
	"canopy/expr"
	"canopy/marks"
)

// P601
func TestOf(t *testing.T) {
	for _, c := range []struct {
		s    string
		want []marks.Mark
		void bool
	}{
		{"0", nil, false},
		{"1", nil, true},
		{"x", []marks.Mark{{x, -1}}, false},
		{"<b>", []marks.Mark{{openB, -1}}, false},
		{"</a>", []marks.Mark{{shutA, -1}}, false},
		{"<a> x </a>", []marks.Mark{{openA, -1}, {x, -1}, {shutA, -1}}, false},
		{"x x y x", []marks.Mark{{x, -1}, {x, -1}, {y, -1}, {x, -1}}, false},
		{"y | x | y", []marks.Mark{{y, -1}, {x, -1}, {y, -1}}, false},
		{"x*", []marks.Mark{{x, -1}}, true},
		{"x**", []marks.Mark{{x, -1}}, true},
		{"0*", nil, true},
		{"1*", nil, true},
		{"0 | 1", nil, true},
		{"0 | 0", nil, false},
		{"1 1", nil, true},
		{"1 0", nil, false},
		{"0 1", nil, false},
		{"1 1 0", nil, false},
		{"x 0 y", []marks.Mark{{x, -1}, {y, -1}}, false},
		{"x* y*", []marks.Mark{{x, -1}, {y, -1}}, true},
		{"x* y", []marks.Mark{{x, -1}, {y, -1}}, false},
		{"x | y*", []marks.Mark{{x, -1}, {y, -1}}, true},
		{"x | y", []marks.Mark{{x, -1}, {y, -1}}, false},
		{"( x y )*", []marks.Mark{{x, -1}, {y, -1}}, true},
		{"<a[ 1 ]a>", []marks.Mark{{openA, 1}, {shutA, 0}}, false},
		{"<a[ 0 ]b>", []marks.Mark{{openA, 1}, {shutB, 0}}, false},
		{"<a[ x ]a>", []marks.Mark{{openA, 2}, {x, -1}, {shutA, 0}}, false},
		{"<a[ x* ]a>*", []marks.Mark{{openA, 2}, {x, -1}, {shutA, 0}}, true},
		{"x <a[ 1 ]b> y", []marks.Mark{{x, -1}, {openA, 2}, {shutB, 1}, {y, -1}}, false},
		{"<a[ <b[ x ]b> y ]b> <a[ 1 ]a>", []marks.Mark{{openA, 5}, {openB, 3}, {x, -1}, {shutB, 1}, {y, -1}, {shutB, 0}, {openA, 7}, {shutA, 6}}, false},
		{"<a[ <a[ <a[ 1 ]a> ]a> ]a>", []marks.Mark{{openA, 5}, {openA, 4}, {openA, 3}, {shutA, 2}, {shutA, 1}, {shutA, 0}}, false},
	} {
		e := parsed(t, c.s)
		if got := marks.Of(letters(), e); !slices.Equal(got, c.want) {
			t.Errorf("P601: Of %q: %v, not %v", c.s, got, c.want)
		}
		if got := marks.Void(e); got != c.void {
			t.Errorf("P601: Void of %q: %v", c.s, got)
		}
	}
}

// P602
func TestFirstLastNext(t *testing.T) {
	for _, c := range []struct{ s, first, last, next string }{
		{"0", "[]", "[]", "[]"},
		{"1", "[]", "[]", "[]"},
		{"0*", "[]", "[]", "[]"},
		{"1 1*", "[]", "[]", "[]"},
		{"x", "[0]", "[0]", "[]"},
		{"</a>", "[0]", "[0]", "[]"},
		{"x*", "[0]", "[0]", "[{0 0}]"},
		{"x**", "[0]", "[0]", "[{0 0}]"},
		{"x y", "[0]", "[1]", "[{0 1}]"},
		{"x y x y", "[0]", "[3]", "[{0 1} {1 2} {2 3}]"},
		{"1 x 1 y 1", "[0]", "[1]", "[{0 1}]"},
		{"x 0 y", "[0]", "[1]", "[]"},
		{"x* 0 y*", "[0]", "[1]", "[{0 0} {1 1}]"},
		{"0 x", "[]", "[0]", "[]"},
		{"x 0", "[0]", "[]", "[]"},
		{"( x 0 )*", "[0]", "[]", "[]"},
		{"( 0 x )* y", "[1]", "[1]", "[{0 1}]"},
		{"0* x", "[0]", "[0]", "[]"},
		{"x | y", "[0 1]", "[0 1]", "[]"},
		{"x | 0 | 1 | y", "[0 1]", "[0 1]", "[]"},
		{"x y | y x", "[0 2]", "[1 3]", "[{0 1} {2 3}]"},
		{"( x | y ) ( x | y )", "[0 1]", "[2 3]", "[{0 2} {0 3} {1 2} {1 3}]"},
		{"( x | 1 ) y", "[0 1]", "[1]", "[{0 1}]"},
		{"x ( y | 1 )", "[0]", "[0 1]", "[{0 1}]"},
		{"x* y* x* y", "[0 1 2 3]", "[3]", "[{0 0} {0 1} {0 2} {0 3} {1 1} {1 2} {1 3} {2 2} {2 3}]"},
		{"x y* x* y*", "[0]", "[0 1 2 3]", "[{0 1} {0 2} {0 3} {1 1} {1 2} {1 3} {2 2} {2 3} {3 3}]"},
		{"x y* x", "[0]", "[2]", "[{0 1} {0 2} {1 1} {1 2}]"},
		{"x ( y* y* ) x", "[0]", "[3]", "[{0 1} {0 2} {0 3} {1 1} {1 2} {1 3} {2 2} {2 3}]"},
		{"( x y )*", "[0]", "[1]", "[{0 1} {1 0}]"},
		{"( x y | y )*", "[0 2]", "[1 2]", "[{0 1} {1 0} {1 2} {2 0} {2 2}]"},
		{"( x* y* )*", "[0 1]", "[0 1]", "[{0 0} {0 1} {1 0} {1 1}]"},
		{"( x* y )*", "[0 1]", "[1]", "[{0 0} {0 1} {1 0} {1 1}]"},
		{"<a[ 1 ]a>", "[0]", "[1]", "[{0 1}]"},
		{"<a[ 0 ]a>", "[0]", "[1]", "[]"},
		{"<a[ x ]b>", "[0]", "[2]", "[{0 1} {1 2}]"},
		{"<a[ x y ]b>", "[0]", "[3]", "[{0 1} {1 2} {2 3}]"},
		{"<a[ x* ]b>", "[0]", "[2]", "[{0 1} {0 2} {1 1} {1 2}]"},
		{"<a[ x | y* ]b>", "[0]", "[3]", "[{0 1} {0 2} {0 3} {1 3} {2 2} {2 3}]"},
		{"<a[ x 0 ]b>", "[0]", "[2]", "[{0 1}]"},
		{"<a[ 0 x ]b>", "[0]", "[2]", "[{1 2}]"},
		{"<a[ <b[ 1 ]b>* ]a>*", "[0]", "[3]", "[{0 1} {0 3} {1 2} {2 1} {2 3} {3 0}]"},
		{"<a[ 1 ]a> | x*", "[0 2]", "[1 2]", "[{0 1} {2 2}]"},
		{"( <a> | </a> )* x", "[0 1 2]", "[2]", "[{0 0} {0 1} {0 2} {1 0} {1 1} {1 2}]"},
	} {
		e := parsed(t, c.s)
		if got := fmt.Sprint(marks.First(letters(), e)); got != c.first {
			t.Errorf("P602: First of %q: %s, not %s", c.s, got, c.first)
		}
		if got := fmt.Sprint(marks.Last(letters(), e)); got != c.last {
			t.Errorf("P602: Last of %q: %s, not %s", c.s, got, c.last)
		}
		if got := fmt.Sprint(marks.Next(letters(), e)); got != c.next {
			t.Errorf("P602: Next of %q: %s, not %s", c.s, got, c.next)
		}
	}
}

// P601, P602, P3: any expressions, held against plain sets.
func TestAny(t *testing.T) {
	some(1, 4000, true, func(r *rand.Rand, e api.Expr) {
		got, want := asked(letters(), e), plainOf(e, 0).answers()
		if !got.same(want) {
			t.Fatalf("P601, P602: %s: %v, not %v", expr.Text(letters(), e), got, want)
		}
		if again := asked(letters(), e); !again.same(got) {
			t.Fatalf("P3: %s: %v, then %v", expr.Text(letters(), e), got, again)
		}
	})
}

// P601, P602: where each part has a word, a place may begin, go on or end just where it does so in a word; a star goes around twice to show it.
func TestWords(t *testing.T) {
	n, nexts := 0, 0
	some(2, 12000, false, func(r *rand.Rand, e api.Expr) {
		numbered, places := named(e, 0)
		all, ok := words(numbered, 3000)
		if !ok {
			return
		}
		first, last, next, void := map[int]bool{}, map[int]bool{}, map[api.Pair]bool{}, false
		for _, w := range all {
			if len(w) == 0 {
				void = true
				continue
			}
			first[w[0]], last[w[len(w)-1]] = true, true
			for i := range w[1:] {
				next[api.Pair{A: w[i], B: w[i+1]}] = true
			}
		}
		got := asked(letters(), e)
		want := plain{got.of, void, first, last, next}.answers()
		if len(got.of) != places || !got.same(want) {
			t.Fatalf("P602: %s: %v, not %v", expr.Text(letters(), e), got, want)
		}
		n++
		nexts += len(next)
	})
	if n < 9000 || nexts < 25000 {
		t.Error(n, nexts)
	}
}

// T2: a word is read by places, what a nest begins ended by it, just where the expression has it.
func TestReads(t *testing.T) {
	yes, no := 0, 0
	some(3, 3000, true, func(r *rand.Rand, e api.Expr) {
		a := asked(letters(), e)
		for range 12 {
			w := make([]int, r.Intn(6))
			for i := range w {
				w[i] = r.Intn(len(letters()))
				if len(a.of) > 0 && r.Intn(4) > 0 {
					w[i] = a.of[r.Intn(len(a.of))].Sym
				}
			}
			got, want := reads(a, w), expr.Has(e, w)
			if got != want {
				t.Fatalf("T2: %s, %v: %v", expr.Text(letters(), e), w, got)
			}
			if got {
				yes++
			} else {
				no++
			}
		}
	})
	if yes < 2000 || no < 2000 {
		t.Error(yes, no)
	}
}

// reads tells whether w is read by the places of answers.
func reads(a answers, w []int) bool {
	if len(w) == 0 {
		return a.void
	}
	var from func(place, read int, open []int) bool
	from = func(place, read int, open []int) bool {
		m := a.of[place]
		switch {
		case m.Sym != w[read]:
			return false
		case m.With > place:
			open = append(slices.Clone(open), place)
		case m.With >= 0:
			if len(open) == 0 || open[len(open)-1] != m.With {
				return false
			}
			open = open[:len(open)-1]
		}
		if read == len(w)-1 {
			return len(open) == 0 && slices.Contains(a.last, place)
		}
		return slices.ContainsFunc(a.next, func(p api.Pair) bool { return p.A == place && from(p.B, read+1, open) })
	}
	return slices.ContainsFunc(a.first, func(place int) bool { return from(place, 0, nil) })
}

// P601, P602: as many nodes, levels and places as there may be.
func TestGreatest(t *testing.T) {
	// 1 of 19 levels, 10 times, and what is left of 200 nodes
	chains := append(many(10, nests(18, sym(x))), nests(8, sym(x)))
	for i, c := range []struct {
		e      api.Expr
		places int
	}{
		{or(many(199, sym(x))...), 199},
		{cat(many(199, sym(x))...), 199},
		{cat(many(99, star(sym(x)))...), 99},
		{star(or(many(198, sym(x))...)), 198},
		{star(cat(many(99, star(sym(x)))...)), 99},
		{nests(19, void()), 38},
		{nests(19, none()), 38},
		{or(chains...), 387},
		{cat(chains...), 387},
		{cat(many(66, star(nest(openA, shutA, void())))...), 132},
		{star(or(many(66, nest(openA, shutB, star(sym(y))))...)), 198},
		{star(or(append(many(10, star(nests(16, sym(y)))), void())...)), 330},
	} {
		if err := expr.Check(letters(), c.e); err != api.OK {
			t.Fatalf("no expression: %d: %v", i, err)
		}
		got, want := asked(letters(), c.e), plainOf(c.e, 0).answers()
		if len(got.of) != c.places || !got.same(want) {
			t.Errorf("P601, P602: %d: %d places: %v, not %v", i, len(got.of), got, want)
		}
	}
}

// P601: the symbols are those of l, whatever places they have there; the last of 20, too.
func TestTwentySymbols(t *testing.T) {
	var l []api.Sym
	for i := range api.MaxSyms {
		l = append(l, api.Sym{Name: string(rune('a' + i)), Kind: api.Plain - i%3})
	}
	want := []marks.Mark{{0, -1}, {17, 3}, {18, -1}, {19, 1}, {1, -1}}
	e := cat(sym(0), nest(17, 19, sym(18)), sym(1))
	l[17].Kind, l[18].Kind, l[19].Kind = api.Opens, api.Plain, api.Closes
	if expr.Check(l, e) != api.OK {
		t.Fatal("no expression")
	}
	if got := marks.Of(l, e); !slices.Equal(got, want) {
		t.Errorf("P601: %v", got)
	}
}

// P2: what is handed in stays, its spare room too, and is not kept.
func TestHandedIn(t *testing.T) {
	junk, bad := nest(7, 8, sym(9)), api.Sym{Name: "no", Kind: 7}
	some(4, 500, true, func(r *rand.Rand, e api.Expr) {
		l, f, g := room(letters(), bad), roomy(e, junk), roomy(e, junk)
		got := asked(l, f)
		if !sameRoom(f, g) {
			t.Fatalf("P2: %v is %v now", g, f)
		}
		if !slices.Equal(l[:cap(l)], room(letters(), bad)[:cap(l)]) {
			t.Fatalf("P2: %v is changed", l)
		}
		spoil(f, junk)
		over(l, bad)
		if want := asked(letters(), e); !got.same(want) {
			t.Fatalf("P2: %v is %v, once what was handed in is written over", want, got)
		}
	})
}

// P2: what is answered is new, its spare room too.
func TestAnswered(t *testing.T) {
	some(5, 500, true, func(r *rand.Rand, e api.Expr) {
		f := roomy(e, none())
		want, spoilt, again := asked(letters(), f), asked(letters(), f), asked(letters(), f)
		over(spoilt.of, marks.Mark{Sym: -7, With: -7})
		over(spoilt.first, -7)
		over(spoilt.last, -7)
		over(spoilt.next, api.Pair{A: -7, B: -7})
		if !again.same(want) || !asked(letters(), f).same(want) {
			t.Fatalf("P2: %v, after what was answered is written over", again)
		}
		if !sameRoom(f, roomy(e, none())) {
			t.Fatalf("P2: %v is %v now", e, f)
		}
	})
}

// P1, P8: whatever is handed in, each call ends, and leaves it as it was.
func TestWrong(t *testing.T) {
	around := make([]api.Expr, 2)
	around[0] = api.Expr{Kind: api.ECat, L: around}
	around[1] = api.Expr{Kind: api.EStar, L: around[:1]}
	ways := sym(x)
	for range 60 {
		ways = cat(ways, ways)
	}
	voids := void()
	for range 60 {
		voids = or(voids, voids)
	}
	far := sym(x)
	for range 990 {
		far = star(far)
	}
	wrong := []api.Expr{
		{}, {Kind: 8}, {Kind: -1}, {Kind: 1 << 62},
		around[0], around[1], ways, voids, star(voids), far, stars(20), nests(20, void()),
		or(many(200, sym(x))...), cat(many(100000, void())...), nests(1, or(many(300, sym(x))...)),
		sym(-1), sym(6), sym(1 << 62), sym(-1 << 63),
		nest(x, shutA, void()), nest(openA, openB, void()), nest(shutA, openA, void()), nest(-1, 1<<40, void()),
		nest(openA, shutA, sym(openA)), nest(openA, shutA, star(sym(shutA))),
		{Kind: api.ECat}, {Kind: api.EOr}, {Kind: api.EStar}, {Kind: api.ENest, Sym: openA, End: shutA},
		cat(sym(x)), or(sym(x)), {Kind: api.EStar, L: many(2, sym(x))}, {Kind: api.ENest, Sym: openA, End: shutA, L: many(2, sym(x))},
		{Kind: api.ENone, L: many(1, sym(x))}, {Kind: api.ESym, L: many(1, sym(x))}, {Kind: api.ESym, End: 1}, {Kind: api.EVoid, Sym: 1},
		cat(sym(x), api.Expr{}), or(api.Expr{Kind: 9, L: around}, sym(x)), star(api.Expr{Kind: api.ECat}), cat(void(), api.Expr{Kind: api.EStar}),
	}
	for i, e := range wrong {
		if expr.Check(letters(), e) == api.OK {
			t.Fatalf("%d is an expression", i)
		}
		for _, l := range [][]api.Sym{letters(), nil, {{}}, {{Name: "x", Kind: -1}, {Name: "x", Kind: 9}}, slices.Repeat(letters(), 50)} {
			asked(l, e)
		}
	}
	if len(around[0].L) != 2 || len(around[1].L) != 1 || around[0].Kind != api.ECat || around[1].Kind != api.EStar {
		t.Error("P2: a list that holds itself is changed")
	}
	for _, l := range [][]api.Sym{nil, {}, {{}}, {{Name: "x", Kind: 9}}, slices.Repeat(letters(), 50)} {
		for _, e := range []api.Expr{none(), void(), sym(0), sym(3), star(sym(299)), nest(openA, shutA, sym(x)), cat(void(), sym(openB))} {
			asked(l, e)
		}
	}
}

// stars is sym(x) with n stars about it.
func stars(n int) api.Expr {
	e := sym(x)
	for range n {
		e = star(e)
	}
	return e
}
