package det_test

import (
	"fmt"
	"math"
	"math/rand"
	"slices"
	"testing"

	"canopy/api"
	"canopy/auto"
	"canopy/comp"
	"canopy/det"
	"canopy/expr"
	"canopy/runs"
)

// P1001: each kind of rule, and what comes where none leads on.
func TestMake(t *testing.T) {
	open, shut, plain := api.Sym{Name: "a", Kind: api.Opens}, api.Sym{Name: "a", Kind: api.Closes}, api.Sym{Name: "a", Kind: api.Plain}
	for _, c := range []struct {
		l    []api.Sym
		a    api.Auto
		want string
	}{
		// no Init: the row of no pairs alone
		{[]api.Sym{plain}, api.Auto{}, "{1 0 [0] [] [] [] [{0 0 0}]}"},
		{[]api.Sym{open}, api.Auto{}, "{1 1 [0] [] [{0 0 0 1}] [] []}"},
		{[]api.Sym{shut}, api.Auto{}, "{1 0 [0] [] [] [{0 0 0 0}] []}"},
		{letters(), api.Auto{N: 3, G: 7, Final: []int{0, 1, 2}}, "{1 2 [0] [] [{0 2 0 1} {0 4 0 2}] [{0 1 0 0} {0 1 1 0} {0 1 2 0} {0 5 0 0} {0 5 1 0} {0 5 2 0}] [{0 0 0} {0 3 0}]}"},
		// plain symbols
		{[]api.Sym{plain}, api.Auto{N: 1, Init: []int{0}}, "{2 0 [0] [] [] [] [{0 0 1} {1 0 1}]}"},
		{[]api.Sym{plain}, ring(0, 1), "{1 0 [0] [0] [] [] [{0 0 0}]}"},
		{[]api.Sym{plain}, ring(0, 3), "{3 0 [0] [2] [] [] [{0 0 1} {1 0 2} {2 0 0}]}"},
		{[]api.Sym{plain}, line(0, 3), "{4 0 [0] [2] [] [] [{0 0 1} {1 0 2} {2 0 3} {3 0 3}]}"},
		// two states at first: the rows tell from which of them a state was reached
		{[]api.Sym{plain}, api.Auto{N: 2, Init: []int{1, 0, 1}, Final: []int{1}, Inners: []api.Inner{{From: 0, Sym: 0, To: 1}, {From: 1, Sym: 0, To: 0}}}, "{2 0 [0] [0 1] [] [] [{0 0 1} {1 0 0}]}"},
		// closing where nothing is left
		{[]api.Sym{shut}, api.Auto{N: 2, G: 1, Init: []int{0}, Final: []int{1}, Closes: []api.Close{{From: 0, Sym: 0, Top: 0, To: 1}, {From: 1, Sym: 0, Top: 1, To: 1}}}, "{3 0 [0] [1] [] [{0 0 0 1} {1 0 0 2} {2 0 0 2}] []}"},
		// opening: whatever is pushed
		{[]api.Sym{open}, api.Auto{N: 2, G: 3, Init: []int{0}, Final: []int{1}, Opens: []api.Open{{From: 0, Sym: 0, To: 1, Push: 3}}}, "{3 3 [0] [1] [{0 0 1 1} {1 0 2 2} {2 0 2 3}] [] []}"},
		{[]api.Sym{open}, api.Auto{N: 2, G: 2, Init: []int{0}, Opens: []api.Open{{From: 0, Sym: 0, To: 0, Push: 2}, {From: 0, Sym: 0, To: 1, Push: 1}}}, "{2 2 [0] [] [{0 0 1 1} {1 0 1 2}] [] []}"},
		// closing what was opened: 0 is the first row, 1 that of no pairs, 2 the pair of 0 and 1
		{[]api.Sym{open, shut}, api.Auto{N: 2, G: 1, Init: []int{0}, Final: []int{1}, Opens: []api.Open{{From: 0, Sym: 0, To: 0, Push: 1}}, Closes: []api.Close{{From: 0, Sym: 1, Top: 1, To: 1}}},
			"{3 3 [0] [2] [{0 0 0 1} {1 0 1 2} {2 0 1 3}] [{0 1 0 1} {0 1 1 2} {0 1 2 1} {0 1 3 1} {1 1 0 1} {1 1 1 1} {1 1 2 1} {1 1 3 1} {2 1 0 1} {2 1 1 1} {2 1 2 1} {2 1 3 1}] []}"},
		// two that open, of which one alone may be closed: marks 1 and 3 are those of the second one
		{[]api.Sym{{Name: "b", Kind: api.Opens}, shut, open}, api.Auto{N: 1, G: 2, Init: []int{0}, Final: []int{0}, Opens: []api.Open{{From: 0, Sym: 0, To: 0, Push: 1}, {From: 0, Sym: 2, To: 0, Push: 2}}, Closes: []api.Close{{From: 0, Sym: 1, Top: 2, To: 0}}},
			"{2 4 [0] [0] [{0 0 0 1} {0 2 0 2} {1 0 1 3} {1 2 1 4}] [{0 1 0 1} {0 1 1 1} {0 1 2 0} {0 1 3 1} {0 1 4 1} {1 1 0 1} {1 1 1 1} {1 1 2 1} {1 1 3 1} {1 1 4 1}] []}"},
	} {
		if got := fmt.Sprint(made(t, c.l, c.a)); got != c.want {
			t.Errorf("P1001: %v: %s, not %s", c.a, got, c.want)
		}
	}
}

// P1001, P1002: any machines, held against what is made of plain sets; each is a machine with one way, normed.
func TestAny(t *testing.T) {
	const most = 25
	yes, great, no := 0, 0, 0
	some(1, 4000, func(r *rand.Rand, l []api.Sym, a api.Auto) {
		want, ok := plainMachine(l, a, most)
		got, err := det.Make(l, a, most)
		if !ok {
			no++
			if err != api.Budget || !same(got, api.Auto{}) {
				t.Fatalf("P1001: %v, %v: %v (%v), not Budget", l, a, got, err)
			}
			return
		}
		yes++
		if want.N > 10 {
			great++
		}
		if err != api.OK || !same(got, want) {
			t.Fatalf("P1001: %v, %v: %v (%v), not %v", l, a, got, err, want)
		}
		if auto.Check(l, got) != api.OK || !same(auto.Norm(got), got) || !auto.Single(l, got) || !auto.Whole(l, got) {
			t.Fatalf("P1002: %v, %v: %v", l, a, got)
		}
		if again, err := det.Make(l, a, want.N+r.Intn(500)); err != api.OK || !same(again, got) {
			t.Fatalf("P3: %v, %v: %v, then %v (%v)", l, a, got, again, err)
		}
		if less, err := det.Make(l, a, want.N-1-r.Intn(3)); err != api.Budget || !same(less, api.Auto{}) {
			t.Fatalf("P1001: %v, %v: %v (%v) of less rows", l, a, less, err)
		}
	})
	if yes < 3500 || great < 300 || no < 80 {
		t.Error(yes, great, no)
	}
}

// P1001: rules that stand in any order, and more than once, make the same machine.
func TestOrder(t *testing.T) {
	some(2, 500, func(r *rand.Rand, l []api.Sym, a api.Auto) {
		want, err := det.Make(l, a, 100)
		b := auto.Norm(a)
		b.Init, b.Final = append(b.Init, a.Init...), append(b.Final, a.Final...)
		b.Opens, b.Closes, b.Inners = append(b.Opens, a.Opens...), append(b.Closes, a.Closes...), append(b.Inners, a.Inners...)
		r.Shuffle(len(b.Init), func(i, j int) { b.Init[i], b.Init[j] = b.Init[j], b.Init[i] })
		r.Shuffle(len(b.Opens), func(i, j int) { b.Opens[i], b.Opens[j] = b.Opens[j], b.Opens[i] })
		r.Shuffle(len(b.Closes), func(i, j int) { b.Closes[i], b.Closes[j] = b.Closes[j], b.Closes[i] })
		r.Shuffle(len(b.Inners), func(i, j int) { b.Inners[i], b.Inners[j] = b.Inners[j], b.Inners[i] })
		if got, e := det.Make(l, b, 100); e != err || !same(got, want) {
			t.Fatalf("P1001: %v, %v: %v (%v), not %v (%v)", l, b, got, e, want, err)
		}
	})
}

// P1001: Budget is for more rows than most, or than 200; beside it there is nothing (P4).
func TestRows(t *testing.T) {
	one := kinds(0, 0, 1)
	for _, c := range []struct {
		l    []api.Sym
		a    api.Auto
		rows int
	}{
		{one, api.Auto{}, 1},
		{letters(), api.Auto{N: 5, Final: []int{1}}, 1},
		{one, ring(0, 1), 1},
		{one, line(0, 1), 2},
		{one, ring(0, 2), 2},
		{one, ring(0, 199), 199},
		{one, ring(0, 200), 200},
		{one, line(0, 198), 199},
		{one, line(0, 199), 200},
		{one, line(0, 200), 201},
		{kinds(0, 1, 1), line(1, 199), 200},
		{kinds(1, 0, 1), line(1, 200), 201},
		{kinds(1, 1, 1), line(2, 199), 200},
		{kinds(1, 1, 1), line(2, 200), 201},
		{kinds(1, 2, 1), line(3, 199), 200},
	} {
		for _, most := range []int{math.MinInt, -1, 0, 1, 2, c.rows - 1, c.rows, c.rows + 1, 199, 200, 201, 1000, math.MaxInt} {
			want := api.OK
			if c.rows > most || c.rows > 200 {
				want = api.Budget
			}
			b, err := det.Make(c.l, c.a, most)
			switch {
			case err != want:
				t.Errorf("P1001: %d rows, at most %d: %v", c.rows, most, err)
			case err == api.OK && b.N != c.rows:
				t.Errorf("P1001: %d rows, not %d", b.N, c.rows)
			case err != api.OK && !same(b, api.Auto{}):
				t.Errorf("P4: %v beside %v", b, err)
			}
		}
	}
}

// P1001: Budget is for more than 100000 rules, too.
func TestRules(t *testing.T) {
	for _, c := range []struct{ opens, closes, plains, rows, rules int }{
		{2, 2, 13, 156, 99996},
		{2, 2, 5, 157, 100009},
		{4, 1, 12, 156, 99996},
		{4, 1, 4, 157, 100009},
		{1, 4, 12, 156, 99996},
		{1, 4, 4, 157, 100009},
		{7, 7, 3, 45, 99990},
		{8, 1, 4, 111, 100011},
		{1, 2, 17, 200, 84000},
		{10, 9, 1, 33, 98670},
		{10, 9, 1, 34, 104720},
		{0, 19, 1, 200, 4000},
		{19, 0, 1, 200, 4000},
		{3, 1, 1, 182, 100282},
		{3, 1, 1, 181, 99188},
	} {
		l := kinds(c.opens, c.closes, c.plains)
		a := line(len(l)-1, c.rows-1)
		b, err := det.Make(l, a, 200)
		if c.rules > api.MaxRules {
			if err != api.Budget || !same(b, api.Auto{}) {
				t.Errorf("P1001: %v: %d states (%v)", c, b.N, err)
			}
			continue
		}
		if err != api.OK || b.N != c.rows || b.G != c.rows*c.opens || len(b.Opens)+len(b.Closes)+len(b.Inners) != c.rules {
			t.Errorf("P1001: %v: %d states, %d marks, %d, %d, %d rules (%v)", c, b.N, b.G, len(b.Opens), len(b.Closes), len(b.Inners), err)
			continue
		}
		if auto.Check(l, b) != api.OK || !auto.Single(l, b) || !auto.Whole(l, b) {
			t.Errorf("P1002: %v", c)
		}
	}
}

// P1001: what is no machine over l is told ahead of Budget; beside it there is nothing (P4).
func TestNoMachine(t *testing.T) {
	for i, a := range []api.Auto{
		{N: -1},
		{N: 201},
		{G: -1},
		{G: 10001},
		{N: 1, Init: []int{1}},
		{N: 1, Final: []int{-1}},
		{N: 1, G: 1, Opens: []api.Open{{From: 0, Sym: openA, To: 0, Push: 0}}},
		{N: 1, G: 1, Opens: []api.Open{{From: 0, Sym: x, To: 0, Push: 1}}},
		{N: 1, G: 1, Closes: []api.Close{{From: 0, Sym: shutA, Top: 2, To: 0}}},
		{N: 1, G: 1, Closes: []api.Close{{From: 0, Sym: shutA, Top: math.MinInt, To: 0}}},
		{N: 1, Inners: []api.Inner{{From: 0, Sym: shutB, To: 0}}},
		{N: 1, Inners: []api.Inner{{From: math.MaxInt, Sym: x, To: 0}}},
		{N: 1, Inners: []api.Inner{{From: 0, Sym: 6, To: 0}}},
		{N: 1, Inners: make([]api.Inner, 100001)},
	} {
		for _, most := range []int{math.MinInt, 0, 1, 200, math.MaxInt} {
			if b, err := det.Make(letters(), a, most); err != api.BadAuto || !same(b, api.Auto{}) {
				t.Errorf("P1001: %d: %v (%v)", i, b, err)
			}
		}
	}
}

// P1002, T3: any words, and such as a goes, are taken as a takes them.
func TestWords(t *testing.T) {
	yes, no, deep := 0, 0, 0
	some(3, 3000, func(r *rand.Rand, l []api.Sym, a api.Auto) {
		b, err := det.Make(l, a, 60)
		if err != api.OK {
			return
		}
		for i := range 20 {
			w := anyWord(r, l, 12)
			if i%2 == 0 {
				w = walk(r, a, r.Intn(30))
			}
			want := runs.Takes(l, a, w)
			if got := plainTakes(b, w); got != want {
				t.Fatalf("P1002: %v, %v, %v: %v", l, a, w, got)
			}
			switch {
			case want && len(w) > 8:
				deep++
			case want:
				yes++
			default:
				no++
			}
		}
	})
	if yes < 5000 || no < 10000 || deep < 2000 {
		t.Error(yes, no, deep)
	}
}

// P1002, T3: all words of up to six symbols.
func TestShortWords(t *testing.T) {
	l, some := letters()[:5], 0
	r := rand.New(rand.NewSource(4))
	for some < 12 {
		a := anyMachine(r, l, 1+r.Intn(3), 1+r.Intn(2), 10)
		b, err := det.Make(l, a, 100)
		if err != api.OK || b.N < 6 || len(b.Final) == 0 {
			continue
		}
		some++
		row := [][]int{nil}
		for n := range 7 {
			var longer [][]int
			for _, w := range row {
				if got := plainTakes(b, w); got != runs.Takes(l, a, w) {
					t.Fatalf("P1002: %v, %v: %v", a, w, got)
				}
				for k := range l {
					if n < 6 {
						longer = append(longer, append(slices.Clone(w), k))
					}
				}
			}
			row = longer
		}
	}
}

// P1002: machines of expressions take what these have.
func TestExpressions(t *testing.T) {
	l := letters()
	r := rand.New(rand.NewSource(5))
	for _, s := range []string{"0", "1", "(x | y)* x (x | y) (x | y)", "<a[ x* ]a> | <a[ y* ]b> y", "(<a[ (<b[ x ]a> | y)* ]b>)*", "<a> x <b> y </a>", "</b> (x | x y)* <a[ 1 ]a>", "<a[ <a[ <a[ x* y ]a> ]a> ]a> | <a[ <a[ <b[ x ]b> ]b> ]a>"} {
		e, _, err := expr.Parse(l, s)
		if err != api.OK {
			t.Fatalf("%s: %v", s, err)
		}
		a, err := comp.Make(l, e, api.MaxStates)
		if err != api.OK {
			t.Fatalf("%s: %v", s, err)
		}
		b := made(t, l, a)
		for i := range 2000 {
			w := anyWord(r, l, 7)
			if i%2 == 0 {
				w = walk(r, a, r.Intn(15))
			}
			if got := plainTakes(b, w); got != expr.Has(e, w) {
				t.Fatalf("P1002: %s, %v: %v", s, w, got)
			}
		}
	}
}

// P1001: states and marks of the greatest numbers.
func TestGreatest(t *testing.T) {
	l := kinds(1, 1, 1)
	a := api.Auto{N: 200, G: 10000}
	for q := range 200 {
		a.Init, a.Final = append(a.Init, q), append(a.Final, q)
		a.Inners = append(a.Inners, api.Inner{From: q, Sym: 2, To: (q + 67) % 200})
		a.Opens = append(a.Opens, api.Open{From: q, Sym: 0, To: q, Push: 10000 - q})
		a.Closes = append(a.Closes, api.Close{From: (q + 199) % 200, Sym: 1, Top: 10000 - q, To: q})
	}
	// Row i is each q with q + 67 i. What is opened is closed behind those alone by which a has gone 199 on, so a row of no pairs comes, too; row 200 less.
	b, err := det.Make(l, a, 200)
	if err != api.Budget || !same(b, api.Auto{}) {
		t.Errorf("P1001: %d (%v), not 201 rows", b.N, err)
	}
	a.Inners, a.Closes = a.Inners[:0], a.Closes[:0]
	for q := range 200 {
		a.Inners = append(a.Inners, api.Inner{From: q, Sym: 2, To: (q + 67) % 200})
		for p := range 200 {
			a.Closes = append(a.Closes, api.Close{From: p, Sym: 1, Top: 10000 - q, To: p}, api.Close{From: p, Sym: 1, Top: 0, To: p})
		}
	}
	b = made(t, l, a)
	if b.N != 200 || b.G != 200 || len(b.Final) != 200 || len(b.Closes) != 200*201 || !auto.Single(l, b) || !auto.Whole(l, b) {
		t.Fatalf("P1001: %d states, %d marks, %d, %d", b.N, b.G, len(b.Final), len(b.Closes))
	}
	for i, r := range b.Inners {
		if r != (api.Inner{From: i, Sym: 2, To: (i + 1) % 200}) {
			t.Fatalf("P1001: %v", r)
		}
	}
	for i, r := range b.Closes {
		from, top := i/201, i%201
		to := (from + top - 1) % 200
		if top == 0 {
			to = from
		}
		if r != (api.Close{From: from, Sym: 1, Top: top, To: to}) {
			t.Fatalf("P1001: %v", r)
		}
	}
}

// P1001: each of as many states as there may be, as the first one, and as the one of Final.
func TestEachState(t *testing.T) {
	l := kinds(0, 0, 1)
	for q := range 200 {
		a := ring(0, 200)
		a.Init, a.Final = []int{q}, []int{199 - q}
		if b := made(t, l, a); b.N != 200 || !slices.Equal(b.Final, []int{(399 - 2*q) % 200}) {
			t.Errorf("P1001: %d: %d states, Final %v", q, b.N, b.Final)
		}
	}
}

// P2: what is handed in stays, its spare room too, and is not kept.
func TestHandedIn(t *testing.T) {
	some(6, 500, func(r *rand.Rand, l []api.Sym, a api.Auto) {
		syms, b := room(l, api.Sym{Name: "junk", Kind: 1}), roomy(a)
		wasSyms, was := slices.Clone(syms[:cap(syms)]), roomy(whole(b))
		got, err := det.Make(syms, b, 60)
		if !slices.Equal(syms[:cap(syms)], wasSyms) || !same(whole(b), was) {
			t.Fatalf("P2: %v, %v is changed", l, a)
		}
		over(syms, api.Sym{})
		ruin(b)
		if want, e := det.Make(l, a, 60); e != err || !same(got, want) {
			t.Fatalf("P2: %v is %v, once what was handed in is written over", want, got)
		}
	})
}

// P2: what is answered is new, its spare room too.
func TestAnswered(t *testing.T) {
	some(7, 500, func(r *rand.Rand, l []api.Sym, a api.Auto) {
		b := roomy(a)
		was := roomy(whole(b))
		want, _ := det.Make(l, b, 60)
		spoilt, _ := det.Make(l, b, 60)
		again, _ := det.Make(l, b, 60)
		ruin(spoilt)
		later, _ := det.Make(l, b, 60)
		if !same(again, want) || !same(later, want) || !same(whole(b), was) {
			t.Fatalf("P2: %v, after what was answered is written over", again)
		}
		over(again.Init, -9)
		if final := again.Final; !slices.Equal(final[:cap(final)], want.Final[:cap(final)]) {
			t.Fatal("P2: two lists of one answer share room")
		}
	})
}

// P1, P2, P3, P8: symbols that word.Check refuses.
func TestWrong(t *testing.T) {
	plain := api.Sym{Name: "a", Kind: api.Plain}
	many := func(n int, kinds ...int) []api.Sym {
		var l []api.Sym
		for i := range n {
			l = append(l, api.Sym{Name: "a", Kind: kinds[i%len(kinds)]})
		}
		return l
	}
	for i, l := range [][]api.Sym{
		nil, {}, {{}}, {{Kind: -1}}, {{Kind: 4}, plain}, {plain, plain}, many(21, 3), many(500, 1, 2), many(100000, 3), many(100001, 3), many(1<<17, 1, 2, 3), many(1<<17, 1), many(1<<17, 2), many(99000, 3, 2), many(99000, 1),
		{{Name: "a", Kind: math.MaxInt}, {Name: "", Kind: api.Opens}, {Name: "A", Kind: api.Closes}},
	} {
		for _, n := range []int{0, 1, 200} {
			a := api.Auto{N: n, G: 10000}
			for q := range n {
				a.Init, a.Final = append(a.Init, q), append(a.Final, q)
				for sym := range min(len(l), 100) {
					switch l[sym].Kind {
					case api.Opens:
						a.Opens = append(a.Opens, api.Open{From: q, Sym: sym, To: (q + 1) % n, Push: 1 + q})
					case api.Closes:
						a.Closes = append(a.Closes, api.Close{From: q, Sym: sym, Top: q, To: (q + 1) % n})
					case api.Plain:
						a.Inners = append(a.Inners, api.Inner{From: q, Sym: sym, To: (q + 1) % n})
					}
				}
			}
			for _, most := range []int{math.MinInt, 1, math.MaxInt} {
				syms, was := slices.Clone(l), roomy(a)
				b, err := det.Make(l, a, most)
				if err != api.OK && !same(b, api.Auto{}) {
					t.Errorf("P4: %d: %v beside %v", i, b, err)
				}
				if c, again := det.Make(l, a, most); err != again || !same(b, c) {
					t.Errorf("P3: %d: %v, then %v", i, err, again)
				}
				if !slices.Equal(l, syms) || !same(a, was) {
					t.Errorf("P2: %d is changed", i)
				}
			}
		}
	}
}
