package det_test

import (
	"math/rand"
	"slices"
	"testing"

	"canopy/api"
	"canopy/det"
)

// Places of letters' symbols.
const (
	x = iota
	shutA
	openA
	y
	openB
	shutB
)

// letters are symbols of each kind, the kinds mixed.
func letters() []api.Sym {
	return []api.Sym{
		{Name: "x", Kind: api.Plain},
		{Name: "a", Kind: api.Closes},
		{Name: "a", Kind: api.Opens},
		{Name: "y", Kind: api.Plain},
		{Name: "b", Kind: api.Opens},
		{Name: "b", Kind: api.Closes},
	}
}

// kinds are as many symbols that open, close, and are plain; those of one kind stand together.
func kinds(opens, closes, plains int) []api.Sym {
	var l []api.Sym
	for kind, n := range []int{opens, closes, plains} {
		for i := range n {
			l = append(l, api.Sym{Name: "abcdefghijklmnopqrst"[i : i+1], Kind: kind + 1})
		}
	}
	return l
}

// anySyms are up to 8 symbols in any order.
func anySyms(r *rand.Rand) []api.Sym {
	l := kinds(3, 3, 2)
	r.Shuffle(len(l), func(i, j int) { l[i], l[j] = l[j], l[i] })
	return l[:1+r.Intn(len(l))]
}

// anyMachine is one over l, some of whose rules stand more than once.
func anyMachine(r *rand.Rand, l []api.Sym, states, marks, rules int) api.Auto {
	a := api.Auto{N: states, G: marks}
	for s := range states {
		for range r.Intn(3) {
			if r.Intn(states) < 2 {
				a.Init = append(a.Init, s)
			}
		}
		if r.Intn(3) == 0 {
			a.Final = append(a.Final, s)
		}
	}
	for range rules {
		from, sym, to := r.Intn(states), r.Intn(len(l)), r.Intn(states)
		for range 1 + r.Intn(8)/7 {
			switch l[sym].Kind {
			case api.Plain:
				a.Inners = append(a.Inners, api.Inner{From: from, Sym: sym, To: to})
			case api.Opens:
				if marks > 0 {
					a.Opens = append(a.Opens, api.Open{From: from, Sym: sym, To: to, Push: 1 + r.Intn(marks)})
				}
			case api.Closes:
				a.Closes = append(a.Closes, api.Close{From: from, Sym: sym, Top: r.Intn(marks + 1), To: to})
			}
		}
	}
	return a
}

// some goes through n machines of few states.
func some(seed int64, n int, tell func(r *rand.Rand, l []api.Sym, a api.Auto)) {
	r := rand.New(rand.NewSource(seed))
	for range n {
		l := anySyms(r)
		tell(r, l, anyMachine(r, l, 1+r.Intn(4), r.Intn(4), r.Intn(3+3*len(l))))
	}
}

// line is a machine of n states, which it goes through one by one by a plain symbol.
func line(sym, n int) api.Auto {
	a := api.Auto{N: n, Init: []int{0}, Final: []int{n - 1}}
	for q := range n - 1 {
		a.Inners = append(a.Inners, api.Inner{From: q, Sym: sym, To: q + 1})
	}
	return a
}

// ring is a line that goes around.
func ring(sym, n int) api.Auto {
	a := line(sym, n)
	a.Inners = append(a.Inners, api.Inner{From: n - 1, Sym: sym, To: 0})
	return a
}

// made is the machine with one way of a.
func made(t *testing.T, l []api.Sym, a api.Auto) api.Auto {
	t.Helper()
	b, err := det.Make(l, a, api.MaxStates)
	if err != api.OK {
		t.Fatalf("P1001: %v: %v", a, err)
	}
	return b
}

// anyWord is a word of up to n symbols.
func anyWord(r *rand.Rand, l []api.Sym, n int) []int {
	w := make([]int, r.Intn(n+1))
	for i := range w {
		w[i] = r.Intn(len(l))
	}
	return w
}

// walk is a word that a takes, or of which it takes a front, gone by its rules as they come; it goes on while it can, up to n symbols.
func walk(r *rand.Rand, a api.Auto, n int) []int {
	if len(a.Init) == 0 {
		return nil
	}
	type step struct{ sym, to, top, push int }
	at, stack, w := a.Init[r.Intn(len(a.Init))], []int{}, []int{}
	for len(w) < n {
		top := 0
		if len(stack) > 0 {
			top = stack[len(stack)-1]
		}
		var steps []step
		for _, o := range a.Opens {
			if o.From == at {
				steps = append(steps, step{o.Sym, o.To, 0, o.Push})
			}
		}
		for _, c := range a.Closes {
			if c.From == at && c.Top == top {
				steps = append(steps, step{c.Sym, c.To, top, 0})
			}
		}
		for _, i := range a.Inners {
			if i.From == at {
				steps = append(steps, step{i.Sym, i.To, 0, 0})
			}
		}
		if len(steps) == 0 {
			break
		}
		s := steps[r.Intn(len(steps))]
		if s.top > 0 {
			stack = stack[:len(stack)-1]
		}
		if s.push > 0 {
			stack = append(stack, s.push)
		}
		at, w = s.to, append(w, s.sym)
	}
	return w
}

// same tells whether a and b are one machine; no list is an empty one.
func same(a, b api.Auto) bool {
	return a.N == b.N && a.G == b.G && slices.Equal(a.Init, b.Init) && slices.Equal(a.Final, b.Final) &&
		slices.Equal(a.Opens, b.Opens) && slices.Equal(a.Closes, b.Closes) && slices.Equal(a.Inners, b.Inners)
}

// room is l with spare room behind it, filled with v.
func room[T any](l []T, v T) []T {
	out := slices.Grow(slices.Clone(l), 8)
	over(out[len(out):], v)
	return out
}

// over writes v over l, its spare room too.
func over[T any](l []T, v T) {
	l = l[:cap(l)]
	for i := range l {
		l[i] = v
	}
}

// roomy is a, each list of it with spare room behind it.
func roomy(a api.Auto) api.Auto {
	return api.Auto{
		N: a.N, G: a.G,
		Init:   room(a.Init, -7),
		Final:  room(a.Final, -7),
		Opens:  room(a.Opens, api.Open{From: -7}),
		Closes: room(a.Closes, api.Close{From: -7}),
		Inners: room(a.Inners, api.Inner{From: -7}),
	}
}

// whole is a with its spare room.
func whole(a api.Auto) api.Auto {
	return api.Auto{
		N: a.N, G: a.G,
		Init:   a.Init[:cap(a.Init)],
		Final:  a.Final[:cap(a.Final)],
		Opens:  a.Opens[:cap(a.Opens)],
		Closes: a.Closes[:cap(a.Closes)],
		Inners: a.Inners[:cap(a.Inners)],
	}
}

// ruin writes over all lists of a, their spare room too.
func ruin(a api.Auto) {
	over(a.Init, -9)
	over(a.Final, -9)
	over(a.Opens, api.Open{From: -9, Sym: -9, To: -9, Push: -9})
	over(a.Closes, api.Close{From: -9, Sym: -9, Top: -9, To: -9})
	over(a.Inners, api.Inner{From: -9, Sym: -9, To: -9})
}
