package det_test

import (
	"cmp"
	"slices"
	"strconv"
	"strings"

	"canopy/api"
)

// These make machines with one way by other means than the program: rows are plain sets of pairs, told apart by their texts; each pair is asked of each rule.

// plainRow is pairs of states.
type plainRow map[api.Pair]struct{}

// text is the same of rows that have the same pairs.
func (p plainRow) text() string {
	var all []string
	for x := range p {
		all = append(all, strconv.Itoa(x.A)+" "+strconv.Itoa(x.B))
	}
	slices.Sort(all)
	return strings.Join(all, ",")
}

// plainMaking is rows that have come, by their numbers and their texts.
type plainMaking struct {
	l       []api.Sym
	a       api.Auto
	rows    []plainRow
	numbers map[string]int
	out     api.Auto
}

// put is the number of a row.
func (m *plainMaking) put(p plainRow) int {
	text := p.text()
	n, old := m.numbers[text]
	if !old {
		n = len(m.rows)
		m.numbers[text] = n
		m.rows = append(m.rows, p)
	}
	return n
}

// mark is one more than how many marks stand ahead of that of row j and the opening symbol c.
func (m *plainMaking) mark(j, c int) int {
	opens := func(l []api.Sym) int {
		n := 0
		for _, s := range l {
			if s.Kind == api.Opens {
				n++
			}
		}
		return n
	}
	return j*opens(m.l) + opens(m.l[:c]) + 1
}

// lay lays the rules of row i by all symbols, where nothing is left.
func (m *plainMaking) lay(i int) {
	for k, s := range m.l {
		to := plainRow{}
		for p := range m.rows[i] {
			for _, r := range m.a.Opens {
				if r.From == p.B && r.Sym == k {
					to[api.Pair{A: r.To, B: r.To}] = struct{}{}
				}
			}
			for _, r := range m.a.Closes {
				if r.From == p.B && r.Sym == k && r.Top == 0 {
					to[api.Pair{A: p.A, B: r.To}] = struct{}{}
				}
			}
			for _, r := range m.a.Inners {
				if r.From == p.B && r.Sym == k {
					to[api.Pair{A: p.A, B: r.To}] = struct{}{}
				}
			}
		}
		n := m.put(to)
		switch s.Kind {
		case api.Opens:
			m.out.Opens = append(m.out.Opens, api.Open{From: i, Sym: k, To: n, Push: m.mark(i, k)})
		case api.Closes:
			m.out.Closes = append(m.out.Closes, api.Close{From: i, Sym: k, To: n})
		case api.Plain:
			m.out.Inners = append(m.out.Inners, api.Inner{From: i, Sym: k, To: n})
		}
	}
}

// layBack lays the rule of row r by a closing symbol k, where t and c are the mark.
func (m *plainMaking) layBack(r, t, c, k int) {
	to := plainRow{}
	for p := range m.rows[t] {
		for _, o := range m.a.Opens {
			for q := range m.rows[r] {
				for _, z := range m.a.Closes {
					if o.From == p.B && o.Sym == c && q.A == o.To && z.From == q.B && z.Sym == k && z.Top == o.Push {
						to[api.Pair{A: p.A, B: z.To}] = struct{}{}
					}
				}
			}
		}
	}
	n := m.put(to)
	m.out.Closes = append(m.out.Closes, api.Close{From: r, Sym: k, Top: m.mark(t, c), To: n})
}

// plainMachine is what P1001 says, if there come no more rows than most.
func plainMachine(l []api.Sym, a api.Auto, most int) (api.Auto, bool) {
	m := plainMaking{l: l, a: a, numbers: map[string]int{}}
	first := plainRow{}
	for _, q := range a.Init {
		first[api.Pair{A: q, B: q}] = struct{}{}
	}
	m.put(first)
	for i := 0; i < len(m.rows); i++ {
		m.lay(i)
		for k := range l {
			for c := range l {
				for j := 0; j <= i && l[k].Kind == api.Closes && l[c].Kind == api.Opens; j++ {
					m.layBack(i, j, c, k)
					if j != i {
						m.layBack(j, i, c, k)
					}
				}
			}
		}
		if len(m.rows) > most {
			return api.Auto{}, false
		}
	}
	b := m.out
	b.N, b.Init = len(m.rows), []int{0}
	b.G = m.mark(b.N, 0) - 1
	for i, row := range m.rows {
		if slices.ContainsFunc(a.Final, func(f int) bool { return row.ends(f) }) {
			b.Final = append(b.Final, i)
		}
	}
	sortRules(b)
	return b, true
}

// ends tells whether a pair has f as B.
func (p plainRow) ends(f int) bool {
	for x := range p {
		if x.B == f {
			return true
		}
	}
	return false
}

// sortRules puts the rules of a in order.
func sortRules(a api.Auto) {
	slices.SortFunc(a.Opens, func(p, q api.Open) int { return cmp.Or(p.From-q.From, p.Sym-q.Sym) })
	slices.SortFunc(a.Closes, func(p, q api.Close) int { return cmp.Or(p.From-q.From, p.Sym-q.Sym, p.Top-q.Top) })
	slices.SortFunc(a.Inners, func(p, q api.Inner) int { return cmp.Or(p.From-q.From, p.Sym-q.Sym) })
}

// plainTakes reads w by a machine with one way, whose rules are found one by one; false, too, if there is none, or there are two.
func plainTakes(a api.Auto, w []int) bool {
	if len(a.Init) != 1 {
		return false
	}
	at, stack := a.Init[0], []int{}
	for _, k := range w {
		top := 0
		if len(stack) > 0 {
			top = stack[len(stack)-1]
		}
		var to []int
		for _, r := range a.Opens {
			if r.From == at && r.Sym == k {
				to, stack = append(to, r.To), append(stack, r.Push)
			}
		}
		for _, r := range a.Closes {
			if r.From == at && r.Sym == k && r.Top == top {
				to, stack = append(to, r.To), stack[:max(len(stack)-1, 0)]
			}
		}
		for _, r := range a.Inners {
			if r.From == at && r.Sym == k {
				to = append(to, r.To)
			}
		}
		if len(to) != 1 {
			return false
		}
		at = to[0]
	}
	return slices.Contains(a.Final, at)
}
