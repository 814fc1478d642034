package mix_test

import (
	"math/rand"
	"slices"
	"testing"

	"canopy/api"
	"canopy/auto"
	"canopy/runs"
)

// Places of letters' symbols.
const (
	x = iota
	shutA
	openA
	y
	openB
	shutB
)

// letters are symbols of each kind, the kinds mixed.
func letters() []api.Sym {
	return []api.Sym{
		{Name: "x", Kind: api.Plain},
		{Name: "a", Kind: api.Closes},
		{Name: "a", Kind: api.Opens},
		{Name: "y", Kind: api.Plain},
		{Name: "b", Kind: api.Opens},
		{Name: "b", Kind: api.Closes},
	}
}

// anySyms are some of letters' symbols in any order, one at least.
func anySyms(r *rand.Rand) []api.Sym {
	l := letters()
	r.Shuffle(len(l), func(i, j int) { l[i], l[j] = l[j], l[i] })
	return l[:1+r.Intn(len(l))]
}

// anyMachine is one over l, some of whose rules stand more than once, in no order.
func anyMachine(r *rand.Rand, l []api.Sym) api.Auto {
	a := api.Auto{N: r.Intn(4), G: r.Intn(4)}
	if a.N == 0 {
		return a
	}
	for range 1 + r.Intn(3) {
		a.Init = append(a.Init, r.Intn(a.N))
		a.Final = append(a.Final, r.Intn(a.N))
	}
	for range r.Intn(3 * len(l)) {
		from, sym, to := r.Intn(a.N), r.Intn(len(l)), r.Intn(a.N)
		for range 1 + r.Intn(8)/7 {
			switch l[sym].Kind {
			case api.Plain:
				a.Inners = append(a.Inners, api.Inner{From: from, Sym: sym, To: to})
			case api.Opens:
				if a.G > 0 {
					a.Opens = append(a.Opens, api.Open{From: from, Sym: sym, To: to, Push: 1 + r.Intn(a.G)})
				}
			case api.Closes:
				a.Closes = append(a.Closes, api.Close{From: from, Sym: sym, Top: r.Intn(a.G + 1), To: to})
			}
		}
	}
	return a
}

// some goes through n pairs of machines of few states.
func some(seed int64, n int, tell func(r *rand.Rand, l []api.Sym, a, b api.Auto)) {
	r := rand.New(rand.NewSource(seed))
	for range n {
		l := anySyms(r)
		tell(r, l, anyMachine(r, l), anyMachine(r, l))
	}
}

// line is a machine of n states, which it goes through one by one by x.
func line(n int) api.Auto {
	a := api.Auto{N: n, Init: []int{0}, Final: []int{n - 1}}
	for q := range n - 1 {
		a.Inners = append(a.Inners, api.Inner{From: q, Sym: x, To: q + 1})
	}
	return a
}

// anyWord is a word of up to n symbols.
func anyWord(r *rand.Rand, l []api.Sym, n int) []int {
	w := make([]int, r.Intn(n+1))
	for i := range w {
		w[i] = r.Intn(len(l))
	}
	return w
}

// walk is a word of up to n symbols, by each of which a has somewhere to go.
func walk(r *rand.Rand, l []api.Sym, a api.Auto, n int) []int {
	var w []int
	at := runs.Start(a)
	for len(w) < n {
		var next []runs.At
		for _, sym := range r.Perm(len(l)) {
			if next = runs.Step(l, a, at, sym); len(next) > 0 {
				w = append(w, sym)
				break
			}
		}
		if len(next) == 0 {
			break
		}
		at = next
	}
	return w
}

// eachWord goes through all words of up to n symbols.
func eachWord(l []api.Sym, n int, tell func(w []int)) {
	row := [][]int{nil}
	for long := range n + 1 {
		var longer [][]int
		for _, w := range row {
			tell(w)
			for sym := range l {
				if long < n {
					longer = append(longer, append(slices.Clone(w), sym))
				}
			}
		}
		row = longer
	}
}

// call is one of mix's, of two machines; Not leaves the second one.
type call struct {
	name string
	do   func(l []api.Sym, a, b api.Auto, most int) (api.Auto, api.Errno)
	has  func(a, b bool) bool
}

// same tells whether a and b are one machine; no list is an empty one.
func same(a, b api.Auto) bool {
	return a.N == b.N && a.G == b.G && slices.Equal(a.Init, b.Init) && slices.Equal(a.Final, b.Final) &&
		slices.Equal(a.Opens, b.Opens) && slices.Equal(a.Closes, b.Closes) && slices.Equal(a.Inners, b.Inners)
}

// rules is how many rules a has.
func rules(a api.Auto) int { return len(a.Opens) + len(a.Closes) + len(a.Inners) }

// is fails unless a call has answered a machine that may be, normed.
func is(t *testing.T, what string, l []api.Sym, a api.Auto, e api.Errno) {
	t.Helper()
	if e != api.OK || auto.Check(l, a) != api.OK || !same(auto.Norm(a), a) {
		t.Fatalf("P1101: %s: %v (%v)", what, a, e)
	}
}

// isError fails unless a call has answered e, and nothing beside it.
func isError(t *testing.T, what string, a api.Auto, e, want api.Errno) {
	t.Helper()
	if e != want || !same(a, api.Auto{}) {
		t.Errorf("P1101, P4: %s: %d states, %d marks, %d rules (%v), not %v", what, a.N, a.G, rules(a), e, want)
	}
}

// over writes v over l, its spare room too.
func over[T any](l []T, v T) {
	l = l[:cap(l)]
	for i := range l {
		l[i] = v
	}
}

// room is l with spare room behind it, filled with v.
func room[T any](l []T, v T) []T {
	out := slices.Grow(slices.Clone(l), 8)
	over(out[len(out):], v)
	return out
}

// roomy is a, each list of it with spare room behind it.
func roomy(a api.Auto) api.Auto {
	a.Init, a.Final = room(a.Init, -7), room(a.Final, -7)
	a.Opens, a.Closes, a.Inners = room(a.Opens, api.Open{From: -7}), room(a.Closes, api.Close{From: -7}), room(a.Inners, api.Inner{From: -7})
	return a
}

// whole is a with its spare room.
func whole(a api.Auto) api.Auto {
	a.Init, a.Final = a.Init[:cap(a.Init)], a.Final[:cap(a.Final)]
	a.Opens, a.Closes, a.Inners = a.Opens[:cap(a.Opens)], a.Closes[:cap(a.Closes)], a.Inners[:cap(a.Inners)]
	return a
}

// ruins write over one list of a machine each, its spare room too.
func ruins() []func(a api.Auto) {
	return []func(a api.Auto){
		func(a api.Auto) { over(a.Init, -9) },
		func(a api.Auto) { over(a.Final, -9) },
		func(a api.Auto) { over(a.Opens, api.Open{From: -9, Sym: -9, To: -9, Push: -9}) },
		func(a api.Auto) { over(a.Closes, api.Close{From: -9, Sym: -9, Top: -9, To: -9}) },
		func(a api.Auto) { over(a.Inners, api.Inner{From: -9, Sym: -9, To: -9}) },
	}
}

// ruin writes over all lists of a.
func ruin(a api.Auto) {
	for _, f := range ruins() {
		f(a)
	}
}
