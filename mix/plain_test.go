package mix_test

import (
	"slices"

	"canopy/api"
	"canopy/auto"
	"canopy/det"
)

// These make machines by other means than the program: each two rules are asked, and pairs are numbered by counting.

// counted gives each two numbers of n and of m, both from first on, the next number.
func counted(first, n, m int) map[api.Pair]int {
	all := map[api.Pair]int{}
	for p := range n {
		for q := range m {
			all[api.Pair{A: first + p, B: first + q}] = first + len(all)
		}
	}
	return all
}

// plainAnd is what P1101 says of And, without its bounds.
func plainAnd(a, b api.Auto) api.Auto {
	states, marks := counted(0, a.N, b.N), counted(1, a.G, b.G)
	m := api.Auto{N: len(states), G: len(marks)}
	marks[api.Pair{}] = 0
	for _, p := range a.Init {
		for _, q := range b.Init {
			m.Init = append(m.Init, states[api.Pair{A: p, B: q}])
		}
	}
	for _, p := range a.Final {
		for _, q := range b.Final {
			m.Final = append(m.Final, states[api.Pair{A: p, B: q}])
		}
	}
	for _, r := range a.Opens {
		for _, s := range b.Opens {
			if r.Sym == s.Sym {
				m.Opens = append(m.Opens, api.Open{From: states[api.Pair{A: r.From, B: s.From}], Sym: s.Sym, To: states[api.Pair{A: r.To, B: s.To}], Push: marks[api.Pair{A: r.Push, B: s.Push}]})
			}
		}
	}
	for _, r := range a.Closes {
		for _, s := range b.Closes {
			if top, ok := marks[api.Pair{A: r.Top, B: s.Top}]; ok && r.Sym == s.Sym {
				m.Closes = append(m.Closes, api.Close{From: states[api.Pair{A: r.From, B: s.From}], Sym: s.Sym, Top: top, To: states[api.Pair{A: r.To, B: s.To}]})
			}
		}
	}
	for _, r := range a.Inners {
		for _, s := range b.Inners {
			if r.Sym == s.Sym {
				m.Inners = append(m.Inners, api.Inner{From: states[api.Pair{A: r.From, B: s.From}], Sym: s.Sym, To: states[api.Pair{A: r.To, B: s.To}]})
			}
		}
	}
	return auto.Norm(m)
}

// plainOr is what P1101 says of Or, without its bounds.
func plainOr(a, b api.Auto) api.Auto {
	m := auto.Norm(a)
	m.N, m.G = a.N+b.N, a.G+b.G
	for _, q := range b.Init {
		m.Init = append(m.Init, a.N+q)
	}
	for _, q := range b.Final {
		m.Final = append(m.Final, a.N+q)
	}
	for _, r := range b.Opens {
		m.Opens = append(m.Opens, api.Open{From: a.N + r.From, Sym: r.Sym, To: a.N + r.To, Push: a.G + r.Push})
	}
	for _, r := range b.Closes {
		if r.Top > 0 {
			r.Top += a.G
		}
		m.Closes = append(m.Closes, api.Close{From: a.N + r.From, Sym: r.Sym, Top: r.Top, To: a.N + r.To})
	}
	for _, r := range b.Inners {
		m.Inners = append(m.Inners, api.Inner{From: a.N + r.From, Sym: r.Sym, To: a.N + r.To})
	}
	return auto.Norm(m)
}

// plainNot is what P1101 says of Not.
func plainNot(l []api.Sym, a api.Auto, most int) (api.Auto, api.Errno) {
	m, e := det.Make(l, a, most)
	final := m.Final
	m.Final = nil
	for q := range m.N {
		if !slices.Contains(final, q) {
			m.Final = append(m.Final, q)
		}
	}
	return m, e
}

// plainLess is what P1101 says of Less of machines; false: it is Budget.
func plainLess(l []api.Sym, a, b api.Auto, most int) (api.Auto, bool) {
	not, e := plainNot(l, b, most)
	if e != api.OK || a.N*not.N > min(most, 200) || a.G*not.G > 10000 {
		return api.Auto{}, false
	}
	m := plainAnd(a, not)
	return m, rules(m) <= 100000
}
