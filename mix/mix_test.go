package mix_test

import (
	"fmt"
	"math/rand"
	"slices"
	"strings"
	"testing"

	"canopy/api"
	"canopy/auto"
	"canopy/comp"
	"canopy/det"
	"canopy/expr"
	"canopy/mix"
	"canopy/runs"
)

// calls are all four.
func calls() []call {
	not := func(l []api.Sym, a, _ api.Auto, most int) (api.Auto, api.Errno) { return mix.Not(l, a, most) }
	return []call{
		{"Not", not, func(a, _ bool) bool { return !a }},
		{"And", mix.And, func(a, b bool) bool { return a && b }},
		{"Or", mix.Or, func(a, b bool) bool { return a || b }},
		{"Less", mix.Less, func(a, b bool) bool { return a && !b }},
	}
}

// two are machines of two and of three states, with rules of each kind, some of which have a like in the other one.
func two() (api.Auto, api.Auto) {
	a := api.Auto{
		N: 2, G: 2, Init: []int{1, 0, 1}, Final: []int{1},
		Opens:  []api.Open{{From: 1, Sym: openA, To: 0, Push: 2}, {From: 0, Sym: openB, To: 0, Push: 1}},
		Closes: []api.Close{{From: 1, Sym: shutA, Top: 1, To: 0}, {From: 0, Sym: shutA, Top: 0, To: 1}},
		Inners: []api.Inner{{From: 1, Sym: x, To: 1}, {From: 0, Sym: x, To: 1}, {From: 1, Sym: x, To: 1}},
	}
	b := api.Auto{
		N: 3, G: 4, Init: []int{2}, Final: []int{2, 0},
		Opens:  []api.Open{{From: 1, Sym: openA, To: 2, Push: 3}},
		Closes: []api.Close{{From: 2, Sym: shutA, Top: 4, To: 1}, {From: 0, Sym: shutA, Top: 0, To: 2}, {From: 0, Sym: shutB, Top: 0, To: 2}},
		Inners: []api.Inner{{From: 2, Sym: x, To: 0}, {From: 2, Sym: y, To: 1}},
	}
	return a, b
}

// P1101: what And answers.
func TestAnd(t *testing.T) {
	a, b := two()
	shutAtOnce := api.Auto{N: 1, G: 1, Init: []int{0}, Closes: []api.Close{{From: 0, Sym: shutA, Top: 0, To: 0}}}
	shutOpened := api.Auto{N: 1, G: 1, Init: []int{0}, Closes: []api.Close{{From: 0, Sym: shutA, Top: 1, To: 0}}}
	for _, c := range []struct {
		a, b api.Auto
		want string
	}{
		{api.Auto{}, api.Auto{}, "{0 0 [] [] [] [] []}"},
		{api.Auto{}, b, "{0 0 [] [] [] [] []}"},
		{api.Auto{N: 7, G: 5}, api.Auto{G: 3}, "{0 15 [] [] [] [] []}"},
		{a, api.Auto{N: 1}, "{2 0 [] [] [] [] []}"},
		{a, b, "{6 8 [2 5] [3 5] [{4 2 2 7}] [{0 1 0 5} {5 1 4 1}] [{2 0 3} {5 0 3}]}"},
		{b, a, "{6 8 [4 5] [1 5] [{3 2 4 6}] [{0 1 0 5} {5 1 7 2}] [{4 0 1} {5 0 1}]}"},
		// what takes a mark does not go with what takes none
		{shutAtOnce, shutOpened, "{1 1 [0] [] [] [] []}"},
		{shutOpened, shutAtOnce, "{1 1 [0] [] [] [] []}"},
		{shutOpened, shutOpened, "{1 1 [0] [] [] [{0 1 1 0}] []}"},
		{shutAtOnce, shutAtOnce, "{1 1 [0] [] [] [{0 1 0 0}] []}"},
	} {
		got, e := mix.And(letters(), c.a, c.b, 6+c.a.N)
		is(t, "And", letters(), got, e)
		if s := fmt.Sprint(got); s != c.want {
			t.Errorf("P1101: And of %v, %v: %s, not %s", c.a, c.b, s, c.want)
		}
	}
}

// P1101: what Or answers.
func TestOr(t *testing.T) {
	a, b := two()
	for _, c := range []struct {
		a, b api.Auto
		want string
	}{
		{api.Auto{}, api.Auto{}, "{0 0 [] [] [] [] []}"},
		{api.Auto{G: 5}, api.Auto{N: 3}, "{3 5 [] [] [] [] []}"},
		{a, b, "{5 6 [0 1 4] [1 2 4] [{0 4 0 1} {1 2 0 2} {3 2 4 5}] [{0 1 0 1} {1 1 1 0} {2 1 0 4} {2 5 0 4} {4 1 6 3}] [{0 0 1} {1 0 1} {4 0 2} {4 3 3}]}"},
		{b, a, "{5 6 [2 3 4] [0 2 4] [{1 2 2 3} {3 4 3 5} {4 2 3 6}] [{0 1 0 2} {0 5 0 2} {2 1 4 1} {3 1 0 4} {4 1 5 3}] [{2 0 0} {2 3 1} {3 0 4} {4 0 4}]}"},
		{api.Auto{}, a, "{2 2 [0 1] [1] [{0 4 0 1} {1 2 0 2}] [{0 1 0 1} {1 1 1 0}] [{0 0 1} {1 0 1}]}"},
		{a, api.Auto{}, "{2 2 [0 1] [1] [{0 4 0 1} {1 2 0 2}] [{0 1 0 1} {1 1 1 0}] [{0 0 1} {1 0 1}]}"},
	} {
		got, e := mix.Or(letters(), c.a, c.b, c.a.N+c.b.N)
		is(t, "Or", letters(), got, e)
		if s := fmt.Sprint(got); s != c.want {
			t.Errorf("P1101: Or of %v, %v: %s, not %s", c.a, c.b, s, c.want)
		}
	}
}

// P1101: what Not and Less answer.
func TestNotLess(t *testing.T) {
	plain := letters()[:1]
	odd := api.Auto{N: 2, Init: []int{0}, Final: []int{1}, Inners: []api.Inner{{From: 0, Sym: x, To: 1}, {From: 1, Sym: x, To: 0}}}
	for _, c := range []struct {
		a         api.Auto
		not, less string
	}{
		{api.Auto{}, "{1 0 [0] [0] [] [] [{0 0 0}]}", "{2 0 [0] [1] [] [] [{0 0 1} {1 0 0}]}"},
		{api.Auto{N: 1, Init: []int{0}, Final: []int{0}, Inners: []api.Inner{{From: 0, Sym: x, To: 0}}}, "{1 0 [0] [] [] [] [{0 0 0}]}", "{2 0 [0] [] [] [] [{0 0 1} {1 0 0}]}"},
		{odd, "{2 0 [0] [0] [] [] [{0 0 1} {1 0 0}]}", "{4 0 [0] [2] [] [] [{0 0 3} {1 0 2} {2 0 1} {3 0 0}]}"},
		{line(2), "{3 0 [0] [0 2] [] [] [{0 0 1} {1 0 2} {2 0 2}]}", "{6 0 [0] [3 5] [] [] [{0 0 4} {1 0 5} {2 0 5} {3 0 1} {4 0 2} {5 0 2}]}"},
	} {
		not, e := mix.Not(plain, c.a, 3)
		is(t, "Not", plain, not, e)
		if s := fmt.Sprint(not); s != c.not {
			t.Errorf("P1101: Not of %v: %s, not %s", c.a, s, c.not)
		}
		less, e := mix.Less(plain, odd, c.a, 6)
		is(t, "Less", plain, less, e)
		if s := fmt.Sprint(less); s != c.less {
			t.Errorf("P1101: %v less %v: %s, not %s", odd, c.a, s, c.less)
		}
	}
}

// P1101: any machines, held against what is made of each two rules.
func TestAny(t *testing.T) {
	less, budget := 0, 0
	some(1, 4000, func(r *rand.Rand, l []api.Sym, a, b api.Auto) {
		const most = 18
		got, e := mix.And(l, a, b, most)
		is(t, "And", l, got, e)
		if want := plainAnd(auto.Norm(a), auto.Norm(b)); !same(got, want) {
			t.Fatalf("P1101: And of %v, %v: %v, not %v", a, b, got, want)
		}
		got, e = mix.Or(l, a, b, most)
		is(t, "Or", l, got, e)
		if want := plainOr(a, b); !same(got, want) {
			t.Fatalf("P1101: Or of %v, %v: %v, not %v", a, b, got, want)
		}
		got, e = mix.Not(l, a, most)
		want, err := plainNot(l, a, most)
		if e != err || !same(got, want) {
			t.Fatalf("P1101: Not of %v: %v (%v), not %v (%v)", a, got, e, want, err)
		}
		if e == api.OK && (auto.Check(l, got) != api.OK || !auto.Single(l, got) || !auto.Whole(l, got) || !same(auto.Norm(got), got)) {
			t.Fatalf("P1101, T3: Not of %v: %v", a, got)
		}
		got, e = mix.Less(l, a, b, most)
		want, ok := plainLess(l, a, b, most)
		if !ok {
			budget++
			isError(t, "Less", got, e, api.Budget)
			return
		}
		less++
		is(t, "Less", l, got, e)
		if !same(got, want) {
			t.Fatalf("P1101: %v less %v: %v, not %v", a, b, got, want)
		}
	})
	if less < 3000 || budget < 100 {
		t.Error(less, budget)
	}
}

// P3: rules that stand in any order, and more than once, make the same machine; so does a second call.
func TestOrder(t *testing.T) {
	some(2, 500, func(r *rand.Rand, l []api.Sym, a, b api.Auto) {
		c := auto.Norm(a)
		c.Init, c.Final = append(c.Init, a.Init...), append(c.Final, a.Final...)
		c.Opens, c.Closes, c.Inners = append(c.Opens, a.Opens...), append(c.Closes, a.Closes...), append(c.Inners, a.Inners...)
		slices.Reverse(c.Init)
		slices.Reverse(c.Opens)
		slices.Reverse(c.Closes)
		slices.Reverse(c.Inners)
		for _, f := range calls() {
			for _, two := range [][2]api.Auto{{a, b}, {b, a}, {a, a}} {
				want, err := f.do(l, two[0], two[1], 60)
				for i, m := range two {
					if same(m, a) {
						two[i] = c
					}
				}
				if got, e := f.do(l, two[0], two[1], 60); e != err || !same(got, want) {
					t.Fatalf("P3: %s of %v, %v: %v (%v), not %v (%v)", f.name, a, b, got, e, want, err)
				}
			}
		}
	})
}

// P1101: Budget is for more states than most, or than 200.
func TestStates(t *testing.T) {
	of := func(n int) api.Auto { return api.Auto{N: n} }
	for _, c := range []struct {
		call int
		a, b api.Auto
		n    int
	}{
		{0, of(9), of(0), 1},
		{0, line(1), of(0), 2},
		{0, line(198), of(0), 199},
		{0, line(199), of(0), 200},
		{0, line(200), of(0), 201},
		{1, of(0), of(0), 0},
		{1, of(0), of(200), 0},
		{1, of(200), of(0), 0},
		{1, of(1), of(200), 200},
		{1, of(200), of(1), 200},
		{1, of(20), of(10), 200},
		{1, of(199), of(1), 199},
		{1, of(3), of(67), 201},
		{1, of(67), of(3), 201},
		{1, of(2), of(101), 202},
		{1, of(200), of(200), 40000},
		{2, of(0), of(0), 0},
		{2, of(0), of(5), 5},
		{2, of(5), of(0), 5},
		{2, of(99), of(100), 199},
		{2, of(200), of(0), 200},
		{2, of(100), of(100), 200},
		{2, of(0), of(200), 200},
		{2, of(100), of(101), 201},
		{2, of(200), of(1), 201},
		{2, of(200), of(200), 400},
		{3, of(1), of(1), 1},
		{3, of(7), of(0), 7},
		{3, of(200), of(2), 200},
		{3, of(20), line(9), 200},
		{3, of(1), line(199), 200},
		{3, of(1), line(200), 201},
		{3, of(67), line(2), 201},
	} {
		f := calls()[c.call]
		for _, most := range []int{-1 << 63, -1, 0, 1, 2, c.n - 1, c.n, c.n + 1, 199, 200, 201, 40000, 1<<63 - 1} {
			m, e := f.do(letters()[:1], c.a, c.b, most)
			if c.n > most || c.n > 200 {
				isError(t, f.name, m, e, api.Budget)
				continue
			}
			is(t, f.name, letters()[:1], m, e)
			if m.N != c.n {
				t.Errorf("P1101: %s: %d states, not %d", f.name, m.N, c.n)
			}
		}
	}
}

// P1101: of Less, the machine that takes what b does not is to be within most, too, even where a has no states.
func TestLessOfNone(t *testing.T) {
	l := letters()[:1]
	m, e := mix.Less(l, api.Auto{}, line(4), 4)
	isError(t, "Less", m, e, api.Budget)
	m, e = mix.Less(l, api.Auto{}, line(4), 5)
	is(t, "Less", l, m, e)
	m, e = mix.Less(l, api.Auto{}, line(200), 1000)
	isError(t, "Less", m, e, api.Budget)
}

// P1101: Budget is for marks above 10000, too.
func TestMarks(t *testing.T) {
	l := letters()
	of := func(g int) api.Auto { return api.Auto{N: 1, G: g} }
	// Each row of a line's Not is a mark of each opening symbol.
	for _, c := range []struct {
		call int
		a, b api.Auto
		g    int
	}{
		{1, of(0), of(10000), 0},
		{1, of(10000), of(0), 0},
		{1, of(1), of(10000), 10000},
		{1, of(100), of(100), 10000},
		{1, of(10000), of(1), 10000},
		{1, of(73), of(137), 10001},
		{1, of(137), of(73), 10001},
		{1, of(2), of(5001), 10002},
		{1, of(10000), of(10000), 100000000},
		{2, of(0), of(10000), 10000},
		{2, of(10000), of(0), 10000},
		{2, of(5000), of(5000), 10000},
		{2, of(1), of(10000), 10001},
		{2, of(10000), of(1), 10001},
		{2, of(10000), of(10000), 20000},
		{3, of(1000), line(4), 10000},
		{3, of(1001), line(4), 10010},
		{3, of(5000), api.Auto{}, 10000},
		{3, of(5001), api.Auto{}, 10002},
	} {
		f := calls()[c.call]
		m, e := f.do(l, c.a, c.b, 200)
		if c.g > 10000 {
			isError(t, f.name, m, e, api.Budget)
			continue
		}
		is(t, f.name, l, m, e)
		if m.G != c.g {
			t.Errorf("P1101: %s: %d marks, not %d", f.name, m.G, c.g)
		}
	}
}

// full is a machine of n states and g marks, with all rules that there may be by openA, by shutA (with nothing left, too) and by x; then those are cut to so many.
func full(n, g, opens, closes, inners int) api.Auto {
	a := api.Auto{N: n, G: g}
	for p := range n {
		for q := range n {
			a.Inners = append(a.Inners, api.Inner{From: p, Sym: x, To: q})
			for m := range g + 1 {
				a.Closes = append(a.Closes, api.Close{From: p, Sym: shutA, Top: m, To: q})
				if m > 0 {
					a.Opens = append(a.Opens, api.Open{From: p, Sym: openA, To: q, Push: m})
				}
			}
		}
	}
	a.Opens, a.Closes, a.Inners = a.Opens[:opens], a.Closes[:closes], a.Inners[:inners]
	return a
}

// P1101: Budget is for more than 100000 rules, too, those of all kinds together.
func TestRules(t *testing.T) {
	for _, c := range []struct {
		call  int
		a, b  api.Auto
		rules int
	}{
		{1, full(10, 10, 1000, 0, 0), full(10, 10, 100, 0, 0), 100000},
		{1, full(10, 10, 1000, 0, 1), full(10, 10, 100, 0, 1), 100001},
		{1, full(10, 10, 1000, 0, 1), full(10, 10, 100, 0, 0), 100000},
		{1, full(10, 10, 1000, 11, 0), full(10, 10, 100, 1, 0), 100001},
		{1, full(10, 10, 1000, 11, 0), full(10, 10, 99, 91, 0), 99829},
		{1, full(10, 10, 0, 1100, 0), full(10, 10, 0, 109, 0), 100000},
		{1, full(10, 10, 0, 1100, 0), full(10, 10, 0, 110, 0), 101000},
		{1, full(10, 10, 0, 1100, 1), full(10, 10, 0, 109, 1), 100001},
		{1, full(14, 10, 0, 0, 196), full(14, 10, 0, 0, 196), 38416},
		{1, full(14, 10, 600, 0, 196), full(14, 10, 102, 0, 196), 99616},
		{1, full(14, 10, 600, 0, 196), full(14, 10, 103, 0, 196), 100216},
		{1, full(14, 100, 19600, 19796, 196), full(14, 100, 19600, 19796, 196), 1 << 30},
		{2, full(100, 10, 50000, 0, 0), full(100, 10, 50000, 0, 0), 100000},
		{2, full(100, 10, 50001, 0, 0), full(100, 10, 50000, 0, 0), 100001},
		{2, full(100, 10, 50000, 0, 0), full(100, 10, 50000, 0, 1), 100001},
		{2, full(100, 10, 30000, 20000, 10000), full(100, 10, 20000, 20000, 0), 100000},
		{2, full(100, 10, 30000, 20000, 10000), full(100, 10, 20000, 20001, 0), 100001},
		{2, full(100, 10, 100000, 0, 0), api.Auto{}, 100000},
		{2, api.Auto{N: 100}, full(100, 10, 0, 100000, 0), 100000},
		{2, full(1, 1, 0, 1, 0), full(100, 10, 0, 100000, 0), 100001},
		{2, full(100, 10, 100000, 0, 0), full(100, 10, 0, 100000, 0), 200000},
		{3, full(100, 5, 0, 0, 10000), line(1), 20000},
		{3, full(100, 5, 50000, 0, 0), line(1), 100000},
		{3, full(100, 5, 49999, 0, 1), line(1), 100000},
		{3, full(100, 5, 50000, 0, 1), line(1), 100002},
		{3, full(100, 10, 0, 26180, 0), line(1), 99960},
		{3, full(100, 10, 0, 26191, 0), line(1), 100002},
		{3, full(1, 10000, 0, 10001, 0), api.Auto{}, 10001},
	} {
		f, l := calls()[c.call], letters()[:3]
		if auto.Check(l, c.a) != api.OK || auto.Check(l, c.b) != api.OK {
			t.Fatalf("%d, %d rules", rules(c.a), rules(c.b))
		}
		m, e := f.do(l, c.a, c.b, 200)
		if c.rules > 100000 {
			isError(t, f.name, m, e, api.Budget)
			continue
		}
		is(t, f.name, l, m, e)
		if rules(m) != c.rules {
			t.Errorf("P1101: %s: %d rules, not %d", f.name, rules(m), c.rules)
		}
	}
}

// P1101: Not, and so Less, is Budget where a machine with one way has more than 100000 rules.
func TestRulesOfNot(t *testing.T) {
	l := letters()
	// 157 rows are 157 times 6 rules, and 157 times 157 times 4; those of one more are too many.
	m, e := mix.Not(l, line(156), 200)
	is(t, "Not", l, m, e)
	if m.N != 157 || rules(m) != 99538 {
		t.Errorf("P1101: Not: %d states, %d rules", m.N, rules(m))
	}
	m, e = mix.Less(l, full(1, 1, 1, 2, 1), line(156), 200)
	is(t, "Less", l, m, e)
	if m.N != 157 || rules(m) != 157+157+157+157*314 {
		t.Errorf("P1101: Less: %d states, %d rules", m.N, rules(m))
	}
	m, e = mix.Not(l, line(157), 200)
	isError(t, "Not", m, e, api.Budget)
	m, e = mix.Less(l, full(1, 1, 1, 2, 1), line(157), 200)
	isError(t, "Less", m, e, api.Budget)
}

// P1101: what stands more than once in a machine counts once.
func TestOften(t *testing.T) {
	l := letters()
	a := api.Auto{
		N: 1, G: 1, Init: make([]int, 1<<18), Final: make([]int, 1<<18),
		Opens:  slices.Repeat([]api.Open{{From: 0, Sym: openA, To: 0, Push: 1}}, 50000),
		Closes: slices.Repeat([]api.Close{{From: 0, Sym: shutB, Top: 0, To: 0}}, 30000),
		Inners: slices.Repeat([]api.Inner{{From: 0, Sym: y, To: 0}}, 20000),
	}
	for _, c := range []struct {
		call int
		want string
	}{
		{0, "{2 4 [0] [1]"},
		{1, "{1 1 [0] [0] [{0 2 0 1}] [{0 5 0 0}] [{0 3 0}]}"},
		{2, "{2 2 [0 1] [0 1] [{0 2 0 1} {1 2 1 2}] [{0 5 0 0} {1 5 0 1}] [{0 3 0} {1 3 1}]}"},
		{3, "{2 4 [0] [1] [{0 2 0 1} {1 2 1 3}] [{0 5 0 0} {1 5 0 1}] [{0 3 0} {1 3 1}]}"},
	} {
		f := calls()[c.call]
		m, e := f.do(l, a, a, 2)
		is(t, f.name, l, m, e)
		if s := fmt.Sprint(m); !strings.HasPrefix(s, c.want) {
			t.Errorf("P1101: %s: %s, not %s", f.name, s, c.want)
		}
	}
	// Beside a rule of each state it would be too many, if it counted more than once.
	for _, two := range [][2]api.Auto{{a, full(2, 1, 4, 0, 0)}, {full(2, 1, 4, 0, 0), a}} {
		m, e := mix.And(l, two[0], two[1], 2)
		is(t, "And", l, m, e)
		if rules(m) != 4 {
			t.Errorf("P1101: And: %d rules", rules(m))
		}
		m, e = mix.Or(l, two[0], two[1], 3)
		is(t, "Or", l, m, e)
		if rules(m) != 7 {
			t.Errorf("P1101: Or: %d rules", rules(m))
		}
	}
}

// wrong are no machines over letters.
func wrong() []api.Auto {
	return []api.Auto{
		{N: -1},
		{N: 201},
		{G: -1},
		{G: 10001},
		{N: -1 << 63, G: -1 << 63},
		{N: 1<<63 - 1, G: 1<<63 - 1},
		{N: 1, Init: []int{0, 1}},
		{N: 1, Final: []int{-1}},
		{N: 1, G: 1, Opens: []api.Open{{From: 0, Sym: openA, To: 0, Push: 0}}},
		{N: 1, G: 1, Opens: []api.Open{{From: 0, Sym: x, To: 0, Push: 1}}},
		{N: 1, G: 1, Closes: []api.Close{{From: 0, Sym: shutA, Top: 2, To: 0}}},
		{N: 1, G: 1, Closes: []api.Close{{From: 0, Sym: shutA, Top: -1 << 63, To: 0}}},
		{N: 1, Inners: []api.Inner{{From: 0, Sym: shutB, To: 0}}},
		{N: 1, Inners: []api.Inner{{From: 1<<63 - 1, Sym: x, To: 0}}},
		{N: 1, Inners: []api.Inner{{From: 0, Sym: 6, To: 0}}},
		{N: 1, Inners: make([]api.Inner, 100001)},
	}
}

// P1101: what is no machine is told ahead of Budget, be it a or b; beside it there is nothing (P4).
func TestNoMachine(t *testing.T) {
	l, good := letters(), line(200)
	for _, bad := range wrong() {
		for _, most := range []int{-1 << 63, 0, 1, 200, 1<<63 - 1} {
			for _, f := range calls() {
				m, e := f.do(l, bad, good, most)
				isError(t, f.name, m, e, api.BadAuto)
				m, e = f.do(l, bad, bad, most)
				isError(t, f.name, m, e, api.BadAuto)
				if f.name != "Not" {
					m, e = f.do(l, good, bad, most)
					isError(t, f.name, m, e, api.BadAuto)
				}
			}
		}
	}
}

// P1102, T3: any words, and such as the machines go, are taken where they should be.
func TestWords(t *testing.T) {
	var taken [4]map[[2]bool]int
	for i := range taken {
		taken[i] = map[[2]bool]int{}
	}
	some(3, 2000, func(r *rand.Rand, l []api.Sym, a, b api.Auto) {
		words := [][]int{nil}
		for range 4 {
			words = append(words, anyWord(r, l, 8), walk(r, l, a, 8), walk(r, l, b, 8))
		}
		for i, f := range calls() {
			m, e := f.do(l, a, b, 200)
			if e != api.OK {
				continue
			}
			for _, w := range append(words, walk(r, l, m, 8)) {
				p, q := runs.Takes(l, a, w), runs.Takes(l, b, w)
				taken[i][[2]bool{p, q}]++
				if got := runs.Takes(l, m, w); got != f.has(p, q) {
					t.Fatalf("P1102: %s of %v, %v takes %v: %v", f.name, a, b, w, got)
				}
			}
		}
	})
	for i := range taken {
		for _, pq := range [][2]bool{{false, false}, {false, true}, {true, false}, {true, true}} {
			if taken[i][pq] < 700 {
				t.Error(i, pq, taken[i][pq])
			}
		}
	}
}

// P1102, T3: all words of up to five symbols.
func TestShortWords(t *testing.T) {
	l := letters()[:5]
	r := rand.New(rand.NewSource(4))
	for n := 0; n < 6; {
		a, b := anyMachine(r, l), anyMachine(r, l)
		if less, e := mix.Less(l, a, b, 200); e != api.OK || less.N < 8 || len(b.Final) == 0 {
			continue
		}
		n++
		for _, f := range calls() {
			m, e := f.do(l, a, b, 200)
			is(t, f.name, l, m, e)
			eachWord(l, 5, func(w []int) {
				if got := runs.Takes(l, m, w); got != f.has(runs.Takes(l, a, w), runs.Takes(l, b, w)) {
					t.Fatalf("P1102: %s of %v, %v takes %v: %v", f.name, a, b, w, got)
				}
			})
		}
	}
}

// reader is a machine that takes the words of an expression.
func reader(t *testing.T, l []api.Sym, s string) (api.Expr, api.Auto) {
	t.Helper()
	e, _, err := expr.Parse(l, s)
	if err != api.OK {
		t.Fatalf("%s: %v", s, err)
	}
	a, err := comp.Make(l, e, api.MaxStates)
	if err != api.OK {
		t.Fatalf("%s: %v", s, err)
	}
	return e, a
}

// P1102: machines of expressions take what these should have.
func TestExpressions(t *testing.T) {
	l := letters()
	texts := []string{"0", "1", "x*", "(x | y)* x (x | y)", "<a[ x* ]a> | <a[ y* ]b> y", "(<a[ x | y ]a>)*", "<a> x <b> y </a>", "</b> (x | x y)* <a[ 1 ]a>", "<a[ <a[ x* y ]a> ]a> | <a[ <b[ x ]b> ]a>"}
	r := rand.New(rand.NewSource(5))
	for _, s := range texts {
		for _, z := range texts {
			d, a := reader(t, l, s)
			e, b := reader(t, l, z)
			for _, f := range calls() {
				m, err := f.do(l, a, b, 200)
				if err == api.Budget {
					continue
				}
				is(t, f.name, l, m, err)
				for range 30 {
					for _, w := range [][]int{anyWord(r, l, 6), walk(r, l, a, 8), walk(r, l, b, 8)} {
						if got := runs.Takes(l, m, w); got != f.has(expr.Has(d, w), expr.Has(e, w)) {
							t.Fatalf("P1102: %s of %s, %s takes %v: %v", f.name, s, z, w, got)
						}
					}
				}
			}
		}
	}
}

// P1102: words that go deep, whose marks are many.
func TestDeepWords(t *testing.T) {
	l := letters()
	// a takes back by turns, b in threes; both are at Final where all is taken back.
	turns := func(n int) api.Auto {
		a := api.Auto{N: n, G: n, Init: []int{0}, Final: []int{0}}
		for q := range n {
			a.Opens = append(a.Opens, api.Open{From: q, Sym: openA, To: (q + 1) % n, Push: q + 1})
			a.Closes = append(a.Closes, api.Close{From: (q + 1) % n, Sym: shutA, Top: q + 1, To: q})
			a.Inners = append(a.Inners, api.Inner{From: q, Sym: x, To: (q + 1) % n}, api.Inner{From: q, Sym: y, To: q})
		}
		return a
	}
	a, b := turns(2), turns(3)
	for _, c := range []struct{ open, turn, shut int }{{600, 0, 600}, {600, 6, 600}, {600, 2, 600}, {600, 3, 600}, {600, 0, 300}, {600, 0, 298}, {600, 0, 297}, {599, 0, 0}, {0, 600, 0}, {0, 0, 1}} {
		w := slices.Concat(slices.Repeat([]int{openA}, c.open), slices.Repeat([]int{x}, c.turn), slices.Repeat([]int{shutA}, c.shut))
		for _, f := range calls() {
			m, e := f.do(l, a, b, 200)
			is(t, f.name, l, m, e)
			if got := runs.Takes(l, m, w); got != f.has(runs.Takes(l, a, w), runs.Takes(l, b, w)) {
				t.Errorf("P1102: %s takes %v: %v", f.name, c, got)
			}
		}
	}
}

// P1101: Less is And of a and Not of b.
func TestLessIsAndNot(t *testing.T) {
	for _, most := range []int{3, 8, 30, 200} {
		some(int64(most), 500, func(r *rand.Rand, l []api.Sym, a, b api.Auto) {
			want, err := mix.Not(l, b, most)
			if err == api.OK {
				want, err = mix.And(l, a, want, most)
			}
			if got, e := mix.Less(l, a, b, most); e != err || !same(got, want) {
				t.Fatalf("P1101: %v less %v: %v (%v), not %v (%v)", a, b, got, e, want, err)
			}
		})
	}
}

// P1101: the states of Not are those of the machine with one way, each Final once in the two.
func TestNotIsMake(t *testing.T) {
	some(6, 1000, func(r *rand.Rand, l []api.Sym, a, _ api.Auto) {
		not, e := mix.Not(l, a, 60)
		one, err := det.Make(l, a, 60)
		if e != err {
			t.Fatalf("P1101: %v: %v, not %v", a, e, err)
		}
		all := slices.Concat(not.Final, one.Final)
		slices.Sort(all)
		for q := range one.N {
			if q >= len(all) || all[q] != q {
				t.Fatalf("P1101: Not of %v: %v of Final, beside %v", a, not.Final, one.Final)
			}
		}
		not.Final = one.Final
		if !same(not, one) || len(all) != one.N {
			t.Fatalf("P1101: Not of %v: %v, not %v", a, not, one)
		}
	})
}

// P2: what is handed in stays, its spare room too, and is not kept.
func TestHandedIn(t *testing.T) {
	some(7, 500, func(r *rand.Rand, l []api.Sym, a, b api.Auto) {
		for _, f := range calls() {
			syms, c, d := room(l, api.Sym{Name: "junk", Kind: 1}), roomy(a), roomy(b)
			wasSyms, wasC, wasD := slices.Clone(syms[:cap(syms)]), roomy(whole(c)), roomy(whole(d))
			got, err := f.do(syms, c, d, 60)
			if !slices.Equal(syms[:cap(syms)], wasSyms) || !same(whole(c), wasC) || !same(whole(d), wasD) {
				t.Fatalf("P2: %s: %v, %v, %v is changed", f.name, l, a, b)
			}
			over(syms, api.Sym{})
			ruin(c)
			ruin(d)
			if want, e := f.do(l, a, b, 60); e != err || !same(got, want) {
				t.Fatalf("P2: %s: %v is %v, once what was handed in is written over", f.name, want, got)
			}
		}
	})
}

// P2: what is answered is new, its spare room too, and its lists share nothing.
func TestAnswered(t *testing.T) {
	some(8, 200, func(r *rand.Rand, l []api.Sym, a, b api.Auto) {
		for _, f := range calls() {
			c, d := roomy(auto.Norm(a)), roomy(auto.Norm(b))
			wasC, wasD := roomy(whole(c)), roomy(whole(d))
			want, _ := f.do(l, c, d, 60)
			for i, spoil := range ruins() {
				got, _ := f.do(l, c, d, 60)
				spoil(got)
				lists, all := fmt.Sprint(got), want
				for j, list := range []func(){
					func() { all.Init = got.Init }, func() { all.Final = got.Final }, func() { all.Opens = got.Opens }, func() { all.Closes = got.Closes }, func() { all.Inners = got.Inners },
				} {
					if i == j {
						list()
					}
				}
				if fmt.Sprint(all) != lists {
					t.Fatalf("P2: %s: lists share: %s", f.name, lists)
				}
				again, _ := f.do(l, c, d, 60)
				if !same(again, want) || !same(whole(c), wasC) || !same(whole(d), wasD) {
					t.Fatalf("P2: %s: %v, after what was answered is written over", f.name, again)
				}
			}
		}
	})
}

// P1, P2, P8: symbols that may not be.
func TestWrongSymbols(t *testing.T) {
	many := func(n int, kinds ...int) []api.Sym {
		var l []api.Sym
		for i := range n {
			l = append(l, api.Sym{Name: "a", Kind: kinds[i%len(kinds)]})
		}
		return l
	}
	for i, l := range [][]api.Sym{
		nil, {}, {{}}, {{Kind: -1}}, {{Kind: 4}, {Name: "a", Kind: 3}}, many(2, 3), many(21, 3), many(500, 1, 2), many(100001, 3), many(1<<17, 1, 2, 3), many(99000, 3, 2),
	} {
		for _, n := range []int{0, 1, 14, 200} {
			a := api.Auto{N: n, G: 100}
			for q := range n {
				a.Init, a.Final = append(a.Init, q), append(a.Final, q)
				for sym := range min(len(l), 100) {
					switch l[sym].Kind {
					case api.Opens:
						a.Opens = append(a.Opens, api.Open{From: q, Sym: sym, To: (q + 1) % n, Push: 1 + q%100})
					case api.Closes:
						a.Closes = append(a.Closes, api.Close{From: q, Sym: sym, Top: q % 100, To: (q + 1) % n})
					case api.Plain:
						a.Inners = append(a.Inners, api.Inner{From: q, Sym: sym, To: (q + 1) % n})
					}
				}
			}
			for _, f := range calls() {
				syms, was := slices.Clone(l), roomy(a)
				m, e := f.do(l, a, a, 200)
				if e != api.OK && !same(m, api.Auto{}) {
					t.Errorf("P4: %s: %d: %v beside %v", f.name, i, m, e)
				}
				if again, err := f.do(l, a, a, 200); e != err || !same(m, again) {
					t.Errorf("P3: %s: %d: %v, then %v", f.name, i, e, err)
				}
				if !slices.Equal(l, syms) || !same(a, was) {
					t.Errorf("P2: %s: %d is changed", f.name, i)
				}
			}
		}
	}
}
