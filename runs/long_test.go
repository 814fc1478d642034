package runs_test

import (
	"math/rand"
	"slices"
	"testing"

	"canopy/api"
	"canopy/runs"
)

// often is sym, n times.
func often(n, sym int) []int { return slices.Repeat([]int{sym}, n) }

// guesses pushes any of g marks at each opening symbol, and takes any: so there are g times as many stacks by each.
func guesses(g int) api.Auto {
	a := api.Auto{N: 1, G: g, Init: []int{0}, Final: []int{0}}
	for m := 1; m <= g; m++ {
		a.Opens = append(a.Opens, api.Open{From: 0, Sym: openA, To: 0, Push: m})
		a.Closes = append(a.Closes, api.Close{From: 0, Sym: shutA, Top: m, To: 0})
	}
	return a
}

// P401: far more stacks than there is memory for.
func TestManyStacks(t *testing.T) {
	l := letters()
	for _, n := range []int{1, 10, 100, 3000} {
		w := slices.Concat(often(n, openA), often(n, shutA))
		if a := guesses(4); !runs.Takes(l, a, w) || runs.Takes(l, a, append(w, shutA)) || runs.Takes(l, a, append(w, x)) {
			t.Errorf("a word of %d", n)
		}
	}
	at := runs.Start(guesses(3))
	for range 8 {
		at = runs.Step(l, guesses(3), at, openA)
	}
	if len(at) != 6561 || !sameAt(at[0], is(0, 1, 1, 1, 1, 1, 1, 1, 1)) || !sameAt(at[6560], is(0, 3, 3, 3, 3, 3, 3, 3, 3)) {
		t.Errorf("8 opening ones with 3 marks each: %d", len(at))
	}
}

// P401: a guess is kept: one mark of a hundred was pushed in another state, and whoever took it, ends well.
func TestGuessIsKept(t *testing.T) {
	l := letters()
	// 0 goes to 1 by mark 2 once, 3 is where that was taken back: a word of openings and closings is taken where such a pair is in it.
	a := api.Auto{
		N: 4, G: 2, Init: []int{0}, Final: []int{3},
		Opens:  opens(0, openA, 0, 1, 0, openA, 1, 2, 1, openA, 1, 1, 3, openA, 3, 1),
		Inners: inners(1, x, 2),
		Closes: closes(0, shutA, 1, 0, 1, shutA, 1, 1, 2, shutA, 2, 3, 3, shutA, 1, 3),
	}
	machine(t, a)
	for n := 1; n < 60; n++ {
		deep := slices.Concat(often(n, openA), []int{x}, often(n, shutA))
		flat := slices.Repeat([]int{openA, shutA}, n)
		for _, c := range []struct {
			w    []int
			want bool
		}{
			{deep, true},
			{slices.Concat(flat, deep, flat), true},
			{slices.Concat(often(5, openA), flat, deep, flat, often(7, openA)), true},
			{flat, false},
			{slices.Concat(often(n, openA), []int{x, openA}), false},
			{slices.Concat(often(n, openA), []int{x}), false},
			{slices.Concat(deep, deep), false},
		} {
			if got := runs.Takes(l, a, c.w); got != c.want {
				t.Fatalf("Takes of %v: %v", c.w, got)
			}
		}
	}
}

// P401: a long word, flat and deep.
func TestLongWords(t *testing.T) {
	const n = 300000
	l := letters()
	a := api.Auto{N: 2, G: 1, Init: []int{0}, Final: []int{0}, Opens: opens(0, openA, 1, 1, 1, openA, 0, 1), Closes: closes(0, shutA, 1, 1, 1, shutA, 1, 0, 0, shutC, 0, 0), Inners: inners(0, x, 1, 1, x, 0)}
	machine(t, a)
	for _, c := range []struct {
		what string
		w    []int
		want bool
	}{
		{"plain, even", often(n, x), true},
		{"plain, odd", often(n+1, x), false},
		{"opening, even", often(n, openA), true},
		{"opening, odd", often(n+1, openA), false},
		{"opening and closing", slices.Concat(often(n, openA), often(n, shutA)), true},
		{"one too many closing", slices.Concat(often(n, openA), often(n+1, shutA)), false},
		{"closing where nothing is left", slices.Concat(often(n, openA), often(n, shutA), often(n, shutC)), true},
		{"pairs", slices.Repeat([]int{openA, shutA}, n), true},
	} {
		if got := runs.Takes(l, a, c.w); got != c.want {
			t.Errorf("Takes of a long word, %s: %v", c.what, got)
		}
	}
}

// P401: a machine of as many states, marks, rules as may be.
func TestGreatest(t *testing.T) {
	l := letters()
	a := api.Auto{N: 200, G: 10000, Init: []int{199}, Final: []int{0}}
	for s := range 199 {
		a.Opens = append(a.Opens, api.Open{From: s + 1, Sym: openA, To: s, Push: 10000 - s})
		a.Closes = append(a.Closes, api.Close{From: s, Sym: shutA, Top: 10000 - s, To: s + 1})
	}
	for len(a.Opens)+len(a.Closes)+len(a.Inners) < api.MaxRules {
		a.Inners = append(a.Inners, api.Inner{From: len(a.Inners) % 200, Sym: x, To: len(a.Inners) % 200})
	}
	machine(t, a)
	down, up := often(199, openA), often(199, shutA)
	for _, c := range []struct {
		w    []int
		want bool
	}{
		{down, true},
		{slices.Concat(down, up, []int{x}, down), true},
		{slices.Concat(down, up), false},
		{slices.Concat(down, up[1:], []int{x}, down[1:], often(50, x)), true},
		{slices.Concat(down, up[1:], down), false},
		{slices.Concat(down, up, up), false},
	} {
		if got := runs.Takes(l, a, c.w); got != c.want {
			t.Errorf("Takes of %v: %v", c.w, got)
		}
	}
	at := runs.Start(a)
	for range 199 {
		at = runs.Step(l, a, at, openA)
	}
	if len(at) != 1 || at[0].State != 0 || len(at[0].Stack) != 199 || at[0].Stack[0] != 10000 || at[0].Stack[198] != 9802 {
		t.Errorf("Step down to the end: %v", at)
	}
}

// P401: a machine that may go from each state to each, states in all parts of a set.
func TestDense(t *testing.T) {
	r := rand.New(rand.NewSource(6))
	l := letters()
	a := api.Auto{N: 200, G: 3, Init: []int{0, 63, 64, 127, 128, 199}, Final: []int{65}}
	for range 33000 {
		a.Opens = append(a.Opens, api.Open{From: r.Intn(200), Sym: openA, To: r.Intn(200), Push: 1 + r.Intn(3)})
		a.Closes = append(a.Closes, api.Close{From: r.Intn(200), Sym: shutA, Top: 1 + r.Intn(3), To: r.Intn(200)})
		a.Inners = append(a.Inners, api.Inner{From: r.Intn(200), Sym: x, To: r.Intn(200)})
	}
	machine(t, a)
	w := slices.Concat(often(40, openA), []int{x, x}, often(40, shutA))
	if !runs.Takes(l, a, w) || runs.Takes(l, a, append(w, shutA)) || runs.Takes(l, a, append(w, y)) {
		t.Error("Takes of a dense machine")
	}
	var all []runs.At
	for s := range 200 {
		all = append(all, is(s, 2))
	}
	if got := runs.Step(l, a, []runs.At{is(0, 2), is(64, 2), is(199, 2)}, x); !same(got, stepped(a, []runs.At{is(0, 2), is(64, 2), is(199, 2)}, x)) {
		t.Errorf("Step of a dense machine: %v", got)
	}
	if got := runs.Step(l, a, all, x); !same(got, all) {
		t.Errorf("Step of a dense machine, from all: %v", got)
	}
}

// P401: sparse machines of many states against plain searches.
func TestManyStates(t *testing.T) {
	r := rand.New(rand.NewSource(7))
	l := letters()
	yes := 0
	for range 60 {
		a := anyMachine(r, 200, 40, 2500)
		for range 40 {
			a.Final = append(a.Final, r.Intn(200))
		}
		machine(t, a)
		for range 10 {
			w := walk(r, a, 8)
			want := taken(a, w)
			if runs.Takes(l, a, w) != want {
				t.Fatalf("Takes of %v: not %v", w, want)
			}
			if want {
				yes++
			}
		}
		at := runs.Start(a)
		for range 4 {
			sym := r.Intn(len(l))
			want := stepped(a, at, sym)
			if got := runs.Step(l, a, at, sym); !same(got, want) {
				t.Fatalf("Step by %d from %v: %v, not %v", sym, at, got, want)
			}
			at = want
		}
	}
	if yes < 50 {
		t.Errorf("too little is taken to tell: %d", yes)
	}
}
