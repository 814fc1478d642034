package mix

import (
	"canopy/api"
)

// beside is machines as one: the states and the marks of each stand behind those of the ones ahead.
func beside(machines ...api.Auto) api.Auto {
	var m api.Auto
	for _, a := range machines {
		from := shift{m.N, m.G}
		m.N, m.G = m.N+a.N, m.G+a.G
		m.Init = moved(m.Init, a.Init, from.state)
		m.Final = moved(m.Final, a.Final, from.state)
		m.Opens = moved(m.Opens, a.Opens, from.open)
		m.Closes = moved(m.Closes, a.Closes, from.close)
		m.Inners = moved(m.Inners, a.Inners, from.inner)
	}
	return m
}

// moved is l, and behind it each of more, moved.
func moved[T any](l, more []T, move func(x T) T) []T {
	for _, x := range more {
		l = append(l, move(x))
	}
	return l
}

// shift is how many states, and marks, stand ahead of a machine's.
type shift struct{ states, marks int }

// state is the number of q behind those ahead.
func (s shift) state(q int) int { return s.states + q }

// mark is the number of m behind those ahead: the bottom is that of all.
func (s shift) mark(m int) int {
	if m == bottom {
		return bottom
	}
	return s.marks + m
}

func (s shift) open(r api.Open) api.Open {
	return api.Open{From: s.state(r.From), Sym: r.Sym, To: s.state(r.To), Push: s.mark(r.Push)}
}

func (s shift) close(r api.Close) api.Close {
	return api.Close{From: s.state(r.From), Sym: r.Sym, Top: s.mark(r.Top), To: s.state(r.To)}
}

func (s shift) inner(r api.Inner) api.Inner {
	return api.Inner{From: s.state(r.From), Sym: r.Sym, To: s.state(r.To)}
}
