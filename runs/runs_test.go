package runs_test

import (
	"math"
	"math/rand"
	"slices"
	"testing"

	"canopy/api"
	"canopy/runs"
)

// P401
func TestStart(t *testing.T) {
	for _, c := range []struct {
		init []int
		want []runs.At
	}{
		{nil, nil},
		{[]int{}, nil},
		{[]int{0}, []runs.At{is(0)}},
		{[]int{2, 0, 2, 10, 0}, []runs.At{is(0), is(2), is(10)}},
		{[]int{199, 3, 20}, []runs.At{is(3), is(20), is(199)}},
	} {
		a := api.Auto{N: 200, G: 3, Init: c.init, Final: []int{1}, Opens: opens(1, openA, 2, 1)}
		machine(t, a)
		for range 2 {
			if got := runs.Start(a); !same(got, c.want) {
				t.Errorf("Start of %v: %v, not %v", c.init, got, c.want)
			}
		}
	}
}

// step fails unless Step answers want.
func step(t *testing.T, what string, a api.Auto, at []runs.At, sym int, want ...runs.At) {
	t.Helper()
	machine(t, a)
	if got := runs.Step(letters(), a, at, sym); !same(got, want) {
		t.Errorf("Step, %s: %v, not %v", what, got, want)
	}
}

// P401: a plain symbol leaves what was pushed.
func TestStepPlain(t *testing.T) {
	a := api.Auto{N: 4, G: 2, Init: []int{3}, Final: []int{3}, Inners: inners(0, x, 2, 0, x, 1, 1, x, 1, 0, y, 3)}
	step(t, "from nowhere", a, nil, x)
	step(t, "from nowhere", a, []runs.At{}, x)
	step(t, "two ways", a, []runs.At{is(0)}, x, is(1), is(2))
	step(t, "marks", a, []runs.At{is(0, 2, 1, 2)}, x, is(1, 2, 1, 2), is(2, 2, 1, 2))
	step(t, "another symbol", a, []runs.At{is(0, 1)}, y, is(3, 1))
	step(t, "no rule of the state", a, []runs.At{is(2), is(3)}, x)
	step(t, "no rule of the symbol", a, []runs.At{is(0)}, openA)
	step(t, "two that meet", a, []runs.At{is(1), is(0)}, x, is(1), is(2))
	step(t, "two that do not, as their marks differ", a, []runs.At{is(1, 2), is(1)}, x, is(1), is(1, 2))
	step(t, "one that stands twice", a, []runs.At{is(1, 2), is(0), is(1, 2)}, x, is(1), is(1, 2), is(2))
	a.Inners = slices.Repeat(a.Inners, 3)
	step(t, "rules that stand more than once", a, []runs.At{is(0)}, x, is(1), is(2))
}

// P401: an opening symbol pushes.
func TestStepOpens(t *testing.T) {
	a := api.Auto{N: 3, G: 10, Init: []int{0}, Opens: opens(0, openA, 1, 10, 0, openA, 1, 2, 0, openA, 0, 3, 1, openA, 1, 2, 0, openB, 2, 1)}
	step(t, "onto nothing", a, []runs.At{is(0)}, openA, is(0, 3), is(1, 2), is(1, 10))
	step(t, "onto marks", a, []runs.At{is(0, 1, 5)}, openA, is(0, 3, 1, 5), is(1, 2, 1, 5), is(1, 10, 1, 5))
	step(t, "another symbol", a, []runs.At{is(0, 7)}, openB, is(2, 1, 7))
	step(t, "two that meet", a, []runs.At{is(1, 4), is(0, 4)}, openA, is(0, 3, 4), is(1, 2, 4), is(1, 10, 4))
	step(t, "two that do not", a, []runs.At{is(1, 5), is(1, 4)}, openA, is(1, 2, 4), is(1, 2, 5))
	step(t, "no rule of the state", a, []runs.At{is(2, 1), is(2)}, openA)
	a.Opens = slices.Repeat(a.Opens, 2)
	step(t, "rules that stand twice", a, []runs.At{is(0), is(0)}, openA, is(0, 3), is(1, 2), is(1, 10))
}

// P401: a closing symbol takes the mark that was pushed last; Top 0 is where none is left, and nowhere else.
func TestStepCloses(t *testing.T) {
	a := api.Auto{N: 4, G: 3, Init: []int{0}, Closes: closes(0, shutA, 0, 1, 0, shutA, 1, 2, 0, shutA, 2, 3, 1, shutA, 2, 3, 0, shutC, 0, 0, 0, shutC, 1, 0)}
	step(t, "nothing is left", a, []runs.At{is(0)}, shutA, is(1))
	step(t, "nothing is left, no rule with Top 0", a, []runs.At{is(1)}, shutA)
	step(t, "one mark", a, []runs.At{is(0, 1)}, shutA, is(2))
	step(t, "the last of the marks", a, []runs.At{is(0, 1, 2, 3)}, shutA, is(2, 2, 3))
	step(t, "a mark of no rule, be there one with Top 0", a, []runs.At{is(0, 3, 1)}, shutA)
	step(t, "another symbol", a, []runs.At{is(0, 1, 1)}, shutC, is(0, 1))
	step(t, "nothing is left, another symbol", a, []runs.At{is(0), is(0, 2)}, shutC, is(0))
	step(t, "two that meet", a, []runs.At{is(1, 2, 3), is(0, 2, 3)}, shutA, is(3, 3))
	step(t, "two that meet where nothing is left", a, []runs.At{is(0, 1), is(0)}, shutC, is(0))
	step(t, "many", a, []runs.At{is(0, 2), is(0), is(0, 1, 1), is(0, 1), is(1, 2, 1)}, shutA, is(1), is(2), is(2, 1), is(3), is(3, 1))
}

// P401, W3: by State, then Stack: by the first number that differs, a front ahead of what it is the front of.
func TestStepOrder(t *testing.T) {
	l := letters()
	a := api.Auto{N: 20, G: 20, Init: []int{0}, Inners: inners(0, x, 10, 0, x, 9), Opens: opens(0, openA, 10, 9, 0, openA, 9, 10, 0, openA, 9, 9), Closes: closes(0, shutA, 5, 10, 0, shutA, 6, 10, 0, shutA, 0, 10)}
	step(t, "plain", a, []runs.At{is(0, 10), is(0, 9, 1), is(0, 9), is(0), is(0, 9, 1, 1), is(0, 10, 1), is(0, 2)}, x,
		is(9), is(9, 2), is(9, 9), is(9, 9, 1), is(9, 9, 1, 1), is(9, 10), is(9, 10, 1),
		is(10), is(10, 2), is(10, 9), is(10, 9, 1), is(10, 9, 1, 1), is(10, 10), is(10, 10, 1))
	step(t, "opening", a, []runs.At{is(0, 2), is(0), is(0, 1, 20), is(0, 1)}, openA,
		is(9, 9), is(9, 9, 1), is(9, 9, 1, 20), is(9, 9, 2), is(9, 10), is(9, 10, 1), is(9, 10, 1, 20), is(9, 10, 2),
		is(10, 9), is(10, 9, 1), is(10, 9, 1, 20), is(10, 9, 2))
	step(t, "closing", a, []runs.At{is(0, 6, 1), is(0, 5, 2), is(0, 5, 1), is(0, 5, 10), is(0, 6), is(0), is(0, 5, 1, 1)}, shutA,
		is(10), is(10, 1), is(10, 1, 1), is(10, 2), is(10, 10))
	if got := runs.Step(l, a, []runs.At{is(0, 1), is(0, 2)}, x); !same(got, runs.Step(l, a, []runs.At{is(0, 2), is(0, 1)}, x)) {
		t.Errorf("Step hangs on the order of at: %v", got)
	}
}

// P401, P3: machines, and places, of any kind, the places as Step answers them or thrown.
func TestStepAny(t *testing.T) {
	r := rand.New(rand.NewSource(1))
	l := letters()
	some := 0
	for range 2000 {
		g := r.Intn(4)
		a := anyMachine(r, 1+r.Intn(5), g, 6+r.Intn(30))
		machine(t, a)
		at := runs.Start(a)
		for n := range 6 {
			if n == 3 {
				at = thrown(r, a.N, g)
			}
			sym, was := r.Intn(len(l)), copied(at)
			want := stepped(a, at, sym)
			got := runs.Step(l, a, at, sym)
			if !same(got, want) || !same(runs.Step(l, a, at, sym), want) || !same(at, was) {
				t.Fatalf("Step of %v from %v (was %v) by %d: %v, not %v", a, at, was, sym, got, want)
			}
			if len(got) > 2 {
				some++
			}
			at = got
		}
	}
	if some < 1000 {
		t.Errorf("too little to tell: %d", some)
	}
}

// thrown are places by dice, many of them twice, in no order.
func thrown(r *rand.Rand, n, g int) []runs.At {
	var at []runs.At
	for range r.Intn(30) {
		p := is(r.Intn(n))
		for range r.Intn(4) {
			if g > 0 {
				p.Stack = append(p.Stack, 1+r.Intn(g))
			}
		}
		at = append(at, p)
	}
	return at
}

// takes fails unless Takes answers want.
func takes(t *testing.T, what string, a api.Auto, want bool, w ...int) {
	t.Helper()
	machine(t, a)
	for range 2 {
		if got := runs.Takes(letters(), a, w); got != want {
			t.Errorf("Takes, %s, %v: %v", what, w, got)
		}
	}
}

// P401
func TestTakes(t *testing.T) {
	takes(t, "no states", api.Auto{}, false)
	takes(t, "no Init", api.Auto{N: 1, Final: []int{0}}, false)
	takes(t, "no Final", api.Auto{N: 1, Init: []int{0}}, false)
	takes(t, "the word of nothing", api.Auto{N: 1, Init: []int{0}, Final: []int{0}}, true)
	takes(t, "no rules", api.Auto{N: 1, Init: []int{0}, Final: []int{0}}, false, x)
	takes(t, "one of Init is Final", api.Auto{N: 3, Init: []int{2, 0}, Final: []int{1, 0}}, true)
	takes(t, "none of Init is Final", api.Auto{N: 3, Init: []int{2, 0}, Final: []int{1}}, false)
	a := api.Auto{N: 3, G: 2, Init: []int{0}, Final: []int{2}, Opens: opens(0, openA, 1, 2), Inners: inners(1, x, 1), Closes: closes(1, shutA, 2, 2, 2, shutA, 0, 2)}
	takes(t, "a small one", a, true, openA, shutA)
	takes(t, "a small one", a, true, openA, x, x, shutA)
	takes(t, "nothing is left", a, true, openA, shutA, shutA, shutA)
	takes(t, "too short", a, false, openA, x)
	takes(t, "it begins elsewhere", a, false, shutA)
	takes(t, "another symbol", a, false, openA, shutC)
	takes(t, "another symbol", a, false, openB, shutA)
	takes(t, "another symbol", a, false, openA, y, shutA)
	takes(t, "it goes on too far", a, false, openA, shutA, x)
	takes(t, "of its kind no rule", a, false, openA, openA, shutA)
	a.Closes[0].Top = 1
	takes(t, "another mark", a, false, openA, shutA)
	a.Closes[0].Top = 0
	takes(t, "Top 0 where a mark is left", a, false, openA, shutA)
}

// P401, W2: what is left does not matter.
func TestTakesWhateverIsLeft(t *testing.T) {
	a := api.Auto{N: 2, G: 1, Init: []int{0}, Final: []int{1}, Opens: opens(0, openA, 1, 1, 1, openA, 0, 1), Inners: inners(1, x, 1)}
	takes(t, "one mark is left", a, true, openA)
	takes(t, "one mark is left", a, true, openA, x)
	takes(t, "two marks are left", a, false, openA, openA)
	takes(t, "three marks are left", a, true, openA, openA, openA)
}

// P401: what stands between an opening and a closing symbol does not change what was ahead: ways that are at one state in between keep the marks that each of them pushed.
func TestTakesKeepsWaysApart(t *testing.T) {
	a := api.Auto{
		N: 8, G: 2, Init: []int{0, 1}, Final: []int{6},
		Opens:  opens(0, openA, 2, 1, 1, openA, 2, 2, 2, openB, 3, 1),
		Inners: inners(3, x, 3),
		Closes: closes(3, shutC, 1, 4, 4, shutA, 1, 5, 4, shutA, 2, 7, 5, shutA, 0, 6, 4, shutC, 2, 6),
	}
	takes(t, "the mark 1 beneath", a, true, openA, openB, x, shutC, shutA, shutA)
	takes(t, "the mark 2 beneath", a, true, openA, openB, shutC, shutC)
	takes(t, "7 goes nowhere", a, false, openA, openB, shutC, shutA)
	takes(t, "behind the mark 2 nothing goes on", a, false, openA, openB, shutC, shutC, shutA)
	// From 0 by mark 1 to 2, from 1 by mark 2 to 3, both to 4: mark 1 stays with what 2 leads to.
	b := api.Auto{
		N: 7, G: 2, Init: []int{0, 1}, Final: []int{6},
		Opens:  opens(0, openA, 2, 1, 1, openA, 3, 2),
		Inners: inners(2, x, 4, 3, x, 5, 3, y, 4, 2, y, 4),
		Closes: closes(4, shutA, 2, 6, 5, shutA, 1, 6),
	}
	takes(t, "4 with mark 1, 5 with mark 2", b, false, openA, x, shutA)
	takes(t, "4 with mark 1, and with mark 2", b, true, openA, y, shutA)
}

// eachWord tells all words over letters of at most so many symbols.
func eachWord(most int, tell func(w []int)) {
	for n, count := 0, 1; n <= most; n, count = n+1, count*len(letters()) {
		for number := range count {
			w := make([]int, n)
			for i := range w {
				w[i], number = number%len(letters()), number/len(letters())
			}
			tell(w)
		}
	}
}

// P401: all short words.
func TestTakesShort(t *testing.T) {
	r := rand.New(rand.NewSource(2))
	l := letters()
	for range 40 {
		a := anyMachine(r, 1+r.Intn(4), r.Intn(3), 6+r.Intn(12))
		machine(t, a)
		eachWord(4, func(w []int) {
			if got := runs.Takes(l, a, w); got != taken(a, w) {
				t.Fatalf("Takes of %v, %v: %v", a, w, got)
			}
		})
	}
}

// walk is a word that a may read from one place on, as long as it finds a way to go, so that it is taken more often than one by dice.
func walk(r *rand.Rand, a api.Auto, n int) []int {
	var w []int
	at := is(a.Init[r.Intn(len(a.Init))])
	for range n {
		sym := r.Intn(len(letters()))
		if l := nexts(a, at, sym); len(l) > 0 {
			w, at = append(w, sym), l[r.Intn(len(l))]
		}
	}
	return w
}

// P401, P3: longer words, that go deep, and what Step comes to.
func TestTakesAny(t *testing.T) {
	r := rand.New(rand.NewSource(3))
	l := letters()
	yes, no := 0, 0
	for range 1500 {
		a := anyMachine(r, 2+r.Intn(6), 1+r.Intn(3), 12+r.Intn(14))
		machine(t, a)
		for range 6 {
			w := walk(r, a, 14)
			if len(w) > 0 && r.Intn(3) == 0 {
				w[r.Intn(len(w))] = r.Intn(len(l))
			}
			at := runs.Start(a)
			for _, sym := range w {
				at = runs.Step(l, a, at, sym)
			}
			want := taken(a, w)
			if got := runs.Takes(l, a, w); got != want || runs.Takes(l, a, w) != want {
				t.Fatalf("Takes of %v, %v: %v", a, w, got)
			}
			if slices.ContainsFunc(at, func(p runs.At) bool { return slices.Contains(a.Final, p.State) }) != want {
				t.Fatalf("Step of %v, %v: %v", a, w, at)
			}
			if want {
				yes++
			} else {
				no++
			}
		}
	}
	if min(yes, no) < 1500 {
		t.Errorf("of some kind there is too little to tell: %d, %d", yes, no)
	}
}

// P2: what is handed in stays, its spare room too, and answers share nothing with it nor with one another.
func TestHandedInStays(t *testing.T) {
	r := rand.New(rand.NewSource(4))
	for range 300 {
		a := anyMachine(r, 3, 2, 30)
		a.Init, a.Final = room(a.Init, 2), room(a.Final, 2)
		l, w := room(letters(), api.Sym{Name: "q", Kind: 9}), room(walk(r, a, 9), 3)
		at := room(thrown(r, 3, 2), is(1, 1))
		for i := range at {
			at[i].Stack = room(at[i].Stack, 66)
		}
		all := func() []any { return []any{a.Init[:cap(a.Init)], a.Final[:cap(a.Final)], w[:cap(w)]} }
		var wasInts [][]int
		for _, x := range all() {
			wasInts = append(wasInts, slices.Clone(x.([]int)))
		}
		wasL, wasAt := slices.Clone(l[:cap(l)]), copied(at[:cap(at)])
		wasRoom := make([][]int, len(at))
		for i, p := range at {
			wasRoom[i] = slices.Clone(p.Stack[:cap(p.Stack)])
		}
		wasOpens, wasCloses, wasInners := slices.Clone(a.Opens), slices.Clone(a.Closes), slices.Clone(a.Inners)
		runs.Takes(l, a, w)
		spoilAt(runs.Start(a))
		for sym := range letters() {
			spoilAt(runs.Step(l, a, at, sym))
		}
		for i, x := range all() {
			if !slices.Equal(x.([]int), wasInts[i]) {
				t.Fatalf("a list of numbers is changed: %v", x)
			}
		}
		for i, p := range at {
			if !slices.Equal(p.Stack[:cap(p.Stack)], wasRoom[i]) {
				t.Fatalf("a stack is changed: %v", p.Stack[:cap(p.Stack)])
			}
		}
		if !slices.Equal(l[:cap(l)], wasL) || !same(at[:cap(at)], wasAt) || !slices.Equal(a.Opens, wasOpens) || !slices.Equal(a.Closes, wasCloses) || !slices.Equal(a.Inners, wasInners) {
			t.Fatalf("what was handed in is changed")
		}
	}
}

// spoilAt writes over places, their stacks, and all spare room.
func spoilAt(at []runs.At) {
	for _, p := range at {
		spoil(p.Stack, -5)
	}
	spoil(at, is(-5))
}

// P2: the lists of one answer share nothing, and an answer stays when what was handed in is written over.
func TestListsOfOneAnswer(t *testing.T) {
	l := letters()
	a := api.Auto{N: 2, G: 2, Init: []int{0, 1}, Inners: inners(0, x, 0, 0, x, 1), Opens: opens(0, openA, 0, 1, 0, openA, 1, 1, 0, openA, 1, 2), Closes: closes(0, shutA, 1, 0, 0, shutA, 1, 1)}
	machine(t, a)
	for _, sym := range []int{x, openA, shutA} {
		at := []runs.At{is(0, 1, 2, 1, 2, 1), is(0, 1, 1)}
		got := runs.Step(l, a, at, sym)
		was := copied(got)
		spoilAt(at)
		if len(got) < 3 || !same(got, was) {
			t.Fatalf("Step by %d hangs on what was handed in: %v, not %v", sym, got, was)
		}
		for i := range got {
			spoil(got[i].Stack, -5)
			if !same(got[i+1:], was[i+1:]) {
				t.Fatalf("Step by %d: stacks share: %v, not %v", sym, got, was)
			}
			got[i] = is(was[i].State, was[i].Stack...)
			if !same(got[:i], was[:i]) {
				t.Fatalf("Step by %d: stacks share: %v, not %v", sym, got, was)
			}
		}
	}
}

// P1, P8: what may not be does no harm, and is not changed.
func TestWhatMayNotBe(t *testing.T) {
	r := rand.New(rand.NewSource(5))
	few := []int{0, 1, -1, 2, 5, 63, 64, 199, 200, 255, 256, 10001, math.MaxInt, math.MinInt, math.MaxInt - 1, 1 << 40}
	n := func() int { return few[r.Intn(len(few))] }
	symbols := [][]api.Sym{nil, letters(), make([]api.Sym, 50), {{Name: "\xff", Kind: -9}, {Name: "a", Kind: 2}, {Name: "a", Kind: 2}}}
	for range 3000 {
		a := api.Auto{N: n(), G: n()}
		if r.Intn(3) == 0 {
			a = anyMachine(r, 3, 3, 20)
		}
		for range r.Intn(4) {
			a.Init, a.Final = append(a.Init, n()), append(a.Final, n())
			a.Opens = append(a.Opens, api.Open{From: n(), Sym: n(), To: n(), Push: n()})
			a.Closes = append(a.Closes, api.Close{From: n(), Sym: n(), Top: n(), To: n()})
			a.Inners = append(a.Inners, api.Inner{From: n(), Sym: n(), To: n()})
		}
		var at []runs.At
		var w []int
		for range r.Intn(6) {
			at, w = append(at, is(n(), n(), n()), is(n())), append(w, n(), r.Intn(6))
		}
		was, wasW := copied(at), slices.Clone(w)
		runs.Start(a)
		for _, l := range symbols {
			runs.Step(l, a, at, n())
			runs.Step(l, a, at, r.Intn(6))
			runs.Takes(l, a, w)
		}
		if !same(at, was) || !slices.Equal(w, wasW) {
			t.Fatalf("what was handed in is changed: %v, %v", at, w)
		}
	}
}
