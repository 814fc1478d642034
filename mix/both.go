package mix

import (
	"canopy/api"
)

// bottom is the mark that is on top where nothing is left.
const bottom = 0

// cue is what two rules have in common that are gone by at once: the symbol, and whether nothing is left. Both machines push and take back by the same symbols, so they have nothing left at once.
type cue struct {
	sym  int
	bare bool
}

// grid numbers pairs of states, and pairs of marks, of two machines, of which the second one has so many.
type grid struct{ states, marks int }

// state is that of p and q.
func (g grid) state(p, q int) int { return p*g.states + q }

// mark is that of m and n: the bottom of both is the bottom.
func (g grid) mark(m, n int) int {
	if m == bottom {
		return bottom
	}
	return (m-1)*g.marks + n
}

func (g grid) open(r, s api.Open) api.Open {
	return api.Open{From: g.state(r.From, s.From), Sym: r.Sym, To: g.state(r.To, s.To), Push: g.mark(r.Push, s.Push)}
}

func (g grid) close(r, s api.Close) api.Close {
	return api.Close{From: g.state(r.From, s.From), Sym: r.Sym, Top: g.mark(r.Top, s.Top), To: g.state(r.To, s.To)}
}

func (g grid) inner(r, s api.Inner) api.Inner {
	return api.Inner{From: g.state(r.From, s.From), Sym: r.Sym, To: g.state(r.To, s.To)}
}

// both is a machine that goes as a and b go, step by step. Of too many rules some may lack, but too many are left.
func both(a, b api.Auto) api.Auto {
	g := grid{states: b.N, marks: b.G}
	always := func(int) cue { return cue{} }
	return api.Auto{
		N:      a.N * b.N,
		G:      a.G * b.G,
		Init:   met(a.Init, b.Init, always, g.state),
		Final:  met(a.Final, b.Final, always, g.state),
		Opens:  met(a.Opens, b.Opens, func(r api.Open) cue { return cue{sym: r.Sym} }, g.open),
		Closes: met(a.Closes, b.Closes, func(r api.Close) cue { return cue{r.Sym, r.Top == bottom} }, g.close),
		Inners: met(a.Inners, b.Inners, func(r api.Inner) cue { return cue{sym: r.Sym} }, g.inner),
	}
}

// met is what pair makes of each two of a and b whose cues are one. It ends once there are more than a machine may have, as there may be as many as all of a times all of b.
func met[T any](a, b []T, cueOf func(x T) cue, pair func(x, y T) T) []T {
	waiting := map[cue][]T{}
	for _, y := range b {
		c := cueOf(y)
		waiting[c] = append(waiting[c], y)
	}
	var out []T
	for _, x := range a {
		for _, y := range waiting[cueOf(x)] {
			out = append(out, pair(x, y))
		}
		if len(out) > api.MaxRules {
			break
		}
	}
	return out
}
