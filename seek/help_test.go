package seek_test

import (
	"math/rand"
	"slices"
	"testing"

	"canopy/api"
	"canopy/auto"
	"canopy/comp"
	"canopy/expr"
	"canopy/runs"
	"canopy/seek"
)

// far is how long a way is that is not there.
const far = 1 << 40

// Places of letters' symbols.
const (
	x = iota
	shutA
	openA
	y
	openB
	shutB
)

// letters are symbols of each kind, the kinds mixed.
func letters() []api.Sym {
	return []api.Sym{
		{Name: "x", Kind: api.Plain},
		{Name: "a", Kind: api.Closes},
		{Name: "a", Kind: api.Opens},
		{Name: "y", Kind: api.Plain},
		{Name: "b", Kind: api.Opens},
		{Name: "b", Kind: api.Closes},
	}
}

// anySyms are some of letters' symbols in any order, one at least.
func anySyms(r *rand.Rand) []api.Sym {
	l := letters()
	r.Shuffle(len(l), func(i, j int) { l[i], l[j] = l[j], l[i] })
	return l[:1+r.Intn(len(l))]
}

// anyMachine is one over l of up to n states, some of whose rules stand more than once, in no order. It may be one that winds: whose rules lead up by one state only, so that its words are long.
func anyMachine(r *rand.Rand, l []api.Sym, n int) api.Auto {
	a := api.Auto{N: r.Intn(n + 1), G: r.Intn(4)}
	if a.N == 0 {
		return a
	}
	winds := r.Intn(2) == 0
	if winds {
		a.Init, a.Final = []int{0}, []int{a.N - 1}
	}
	for range r.Intn(4) / 2 {
		a.Init = append(a.Init, r.Intn(a.N))
		a.Final = append(a.Final, r.Intn(a.N))
	}
	for range r.Intn(1 + 4*a.N) {
		from, to := r.Intn(a.N), r.Intn(a.N)
		if winds {
			to = min(to, from+1)
		}
		for range 1 + r.Intn(8)/7 {
			add(r, l, &a, from, to)
		}
	}
	return a
}

// add adds a rule of any symbol.
func add(r *rand.Rand, l []api.Sym, a *api.Auto, from, to int) {
	switch sym := r.Intn(len(l)); l[sym].Kind {
	case api.Plain:
		a.Inners = append(a.Inners, api.Inner{From: from, Sym: sym, To: to})
	case api.Opens:
		if a.G > 0 {
			a.Opens = append(a.Opens, api.Open{From: from, Sym: sym, To: to, Push: 1 + r.Intn(a.G)})
		}
	case api.Closes:
		a.Closes = append(a.Closes, api.Close{From: from, Sym: sym, Top: r.Intn(a.G + 1), To: to})
	}
}

// some goes through n machines of up to states states.
func some(seed int64, n, states int, tell func(r *rand.Rand, l []api.Sym, a api.Auto)) {
	r := rand.New(rand.NewSource(seed))
	for range n {
		l := letters()
		if r.Intn(3) == 0 {
			l = anySyms(r)
		}
		tell(r, l, anyMachine(r, l, states))
	}
}

// line is a machine of n states, which it goes through one by one by x.
func line(n int) api.Auto {
	a := api.Auto{N: n, Init: []int{0}, Final: []int{n - 1}}
	for q := range n - 1 {
		a.Inners = append(a.Inners, api.Inner{From: q, Sym: x, To: q + 1})
	}
	return a
}

// grow adds to a states between the first and the last one of which each whole word is n long at least, and one just n. Whatever is six long or more is two nests of the same states, and an x, if need be.
func grow(a *api.Auto, n int) (int, int) {
	if n < 6 {
		first := a.N
		a.N += n + 1
		for q := range n {
			a.Inners = append(a.Inners, api.Inner{From: first + q, Sym: x, To: first + q + 1})
		}
		return first, a.N - 1
	}
	p, q := grow(a, n/2-2)
	first := a.N
	a.N, a.G = a.N+3, a.G+2
	for i := range 2 {
		a.Opens = append(a.Opens, api.Open{From: first + i, Sym: openA, To: p, Push: a.G - i})
		a.Closes = append(a.Closes, api.Close{From: q, Sym: shutB, Top: a.G - i, To: first + i + 1})
	}
	if n%2 == 1 {
		a.Inners = append(a.Inners, api.Inner{From: first + 2, Sym: x, To: a.N})
		a.N++
	}
	return first, a.N - 1
}

// grown is a machine whose only word is n long.
func grown(n int) api.Auto {
	var a api.Auto
	first, last := grow(&a, n)
	a.Init, a.Final = []int{first}, []int{last}
	return a
}

// doubled is a machine whose only word is 5 times 2 to the n, less 4, long.
func doubled(n int) api.Auto {
	a := api.Auto{N: 2, Init: []int{0}, Final: []int{1}, Inners: []api.Inner{{From: 0, Sym: x, To: 1}}}
	p, q := 0, 1
	for range n {
		first := a.N
		a.N, a.G = a.N+3, a.G+2
		for i := range 2 {
			a.Opens = append(a.Opens, api.Open{From: first + i, Sym: openA, To: p, Push: a.G - i})
			a.Closes = append(a.Closes, api.Close{From: q, Sym: shutA, Top: a.G - i, To: first + i + 1})
		}
		p, q = first, first+2
	}
	a.Init, a.Final = []int{p}, []int{q}
	return a
}

// reader is a machine that takes the words of an expression.
func reader(t *testing.T, s string) api.Auto {
	t.Helper()
	e, _, err := expr.Parse(letters(), s)
	if err != api.OK {
		t.Fatalf("%s: %v", s, err)
	}
	a, err := comp.Make(letters(), e, api.MaxStates)
	if err != api.OK {
		t.Fatalf("%s: %v", s, err)
	}
	return a
}

// machine fails unless a is one.
func machine(t *testing.T, l []api.Sym, a api.Auto) {
	t.Helper()
	if auto.Check(l, a) != api.OK {
		t.Fatalf("no machine: %d states, %d marks", a.N, a.G)
	}
}

// isShortest fails unless Shortest and Word tell of a word that is n long and taken.
func isShortest(t *testing.T, what string, l []api.Sym, a api.Auto, n int) {
	t.Helper()
	machine(t, l, a)
	long, is := seek.Shortest(l, a)
	w, has := seek.Word(l, a)
	if long != n || !is || len(w) != n || !has {
		t.Fatalf("P1201: %s: Shortest %d, %v, Word of %d, %v, not %d", what, long, is, len(w), has, n)
	}
	if !runs.Takes(l, a, w) {
		t.Fatalf("P1203: %s: %v is not taken", what, w)
	}
}

// isNone fails unless Shortest and Word tell of none.
func isNone(t *testing.T, what string, l []api.Sym, a api.Auto) {
	t.Helper()
	long, is := seek.Shortest(l, a)
	w, has := seek.Word(l, a)
	if long != 0 || is || len(w) != 0 || has {
		t.Fatalf("P1201: %s: Shortest %d, %v, Word %v, %v, not none", what, long, is, w, has)
	}
}

// comparison is Within, or Same.
type comparison struct {
	name string
	do   func(l []api.Sym, a, b api.Auto, most int) ([]int, bool, api.Errno)
	tell func(a, b bool) bool // whether a word that a, that b takes is to be told
}

func comparisons() []comparison {
	return []comparison{
		{"Within", seek.Within, func(a, b bool) bool { return a && !b }},
		{"Same", seek.Same, func(a, b bool) bool { return a != b }},
	}
}

// isError fails unless a comparison has answered e, and nothing beside it.
func isError(t *testing.T, what string, w []int, is bool, e, want api.Errno) {
	t.Helper()
	if len(w) != 0 || is || e != want {
		t.Errorf("P1202, P4: %s: %v, %v (%v), not %v", what, w, is, e, want)
	}
}

// over writes v over l, its spare room too.
func over[T any](l []T, v T) {
	l = l[:cap(l)]
	for i := range l {
		l[i] = v
	}
}

// room is l with spare room behind it, filled with v.
func room[T any](l []T, v T) []T {
	out := slices.Grow(slices.Clone(l), 8)
	over(out[len(out):], v)
	return out
}

// roomy is a, each list of it with spare room behind it.
func roomy(a api.Auto) api.Auto {
	a.Init, a.Final = room(a.Init, -7), room(a.Final, -7)
	a.Opens, a.Closes, a.Inners = room(a.Opens, api.Open{From: -7}), room(a.Closes, api.Close{From: -7}), room(a.Inners, api.Inner{From: -7})
	return a
}

// whole is a with its spare room.
func whole(a api.Auto) api.Auto {
	a.Init, a.Final = a.Init[:cap(a.Init)], a.Final[:cap(a.Final)]
	a.Opens, a.Closes, a.Inners = a.Opens[:cap(a.Opens)], a.Closes[:cap(a.Closes)], a.Inners[:cap(a.Inners)]
	return a
}

// ruin writes over all lists of a, their spare room too.
func ruin(a api.Auto) {
	over(a.Init, -9)
	over(a.Final, -9)
	over(a.Opens, api.Open{From: -9, Sym: -9, To: -9, Push: -9})
	over(a.Closes, api.Close{From: -9, Sym: -9, Top: -9, To: -9})
	over(a.Inners, api.Inner{From: -9, Sym: -9, To: -9})
}

// same tells whether a and b are one machine; no list is an empty one.
func same(a, b api.Auto) bool {
	return a.N == b.N && a.G == b.G && slices.Equal(a.Init, b.Init) && slices.Equal(a.Final, b.Final) &&
		slices.Equal(a.Opens, b.Opens) && slices.Equal(a.Closes, b.Closes) && slices.Equal(a.Inners, b.Inners)
}
