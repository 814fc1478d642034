package fold_test

import (
	"slices"

	"canopy/api"
)

// These find out by other means than the program: as the document's words say it, one by one.

// plainCheck is what P1301 says of Check.
func plainCheck(m api.Mod) bool {
	n := len(m.Of)
	if m.Plains < 0 || m.Plains > 20 || m.Closings < 0 || m.Closings > 20 || n < 1 || n > 60 || len(m.Entry) < 1 || len(m.Entry) > 21 {
		return false
	}
	if !slices.Equal([]int{len(m.Final), len(m.In), len(m.Low), len(m.Ret)}, []int{n, n, n, n}) {
		return false
	}
	module := map[int]int{} // of what is a state
	for p, k := range m.Of {
		if k < 0 || k >= len(m.Entry) {
			return false
		}
		module[p] = k
	}
	fine := true
	leads := func(p, k int) {
		at, is := module[p]
		fine = fine && is && at == k
	}
	for k, p := range m.Entry {
		leads(p, k)
	}
	for p, k := range m.Of {
		low, ret := m.Closings, m.Closings
		if k == 0 {
			ret = 0
		} else {
			low = 0
		}
		fine = fine && len(m.In[p]) == m.Plains && len(m.Low[p]) == low && len(m.Ret[p]) == ret
		for _, q := range m.In[p] {
			leads(q, k)
		}
		for _, q := range m.Low[p] {
			leads(q, 0)
		}
		for _, l := range m.Ret[p] {
			fine = fine && len(l) == n
			for q, to := range l {
				leads(to, module[q])
			}
		}
	}
	return fine
}

// plainRead is where m comes to from a state on, these ones pushed, the last one last; false: a pair is no symbol.
func plainRead(m api.Mod, at int, left []int, w []api.Pair) (int, bool) {
	if len(w) == 0 {
		return at, true
	}
	n := len(left)
	switch s := w[0]; {
	case !slices.Contains(symbols(m), s):
		return 0, false
	case s.A == api.Plain:
		return plainRead(m, m.In[at][s.B], left, w[1:])
	case s.A == api.Opens:
		return plainRead(m, m.Entry[s.B+1], append(slices.Clone(left), at), w[1:])
	case n == 0:
		return plainRead(m, m.Low[at][s.B], nil, w[1:])
	default:
		return plainRead(m, m.Ret[at][s.B][left[n-1]], left[:n-1], w[1:])
	}
}

// plainTakes is what P1302 says of Takes.
func plainTakes(m api.Mod, w []api.Pair) bool {
	at, is := plainRead(m, m.Entry[0], nil, w)
	return is && m.Final[at]
}

// eachWord goes through all words of up to n symbols, shorter ones first, till tell says so.
func eachWord(m api.Mod, n int, tell func(w []api.Pair) bool) {
	all := symbols(m)
	row := [][]api.Pair{nil}
	for range n + 1 {
		var longer [][]api.Pair
		for _, w := range row {
			if tell(w) {
				return
			}
			for _, s := range all {
				longer = append(longer, append(slices.Clone(w), s))
			}
		}
		row = longer
	}
}

// ledTo tells to which states words lead that have no more than most symbols open at once.
func ledTo(m api.Mod, most int) []bool {
	type place struct {
		at   int
		left string
	}
	is := make([]bool, len(m.Of))
	seen := map[place]bool{{at: m.Entry[0]}: true}
	queue := []place{{at: m.Entry[0]}}
	for i := 0; i < len(queue); i++ {
		p := queue[i]
		is[p.at] = true
		for _, s := range symbols(m) {
			to := place{left: p.left}
			switch {
			case s.A == api.Plain:
				to.at = m.In[p.at][s.B]
			case s.A == api.Opens:
				to = place{m.Entry[s.B+1], p.left + string(rune(p.at))}
			case p.left == "":
				to.at = m.Low[p.at][s.B]
			default:
				n := len(p.left) - 1
				to = place{m.Ret[p.at][s.B][p.left[n]], p.left[:n]}
			}
			if len(to.left) <= most && !seen[to] {
				seen[to] = true
				queue = append(queue, to)
			}
		}
	}
	return is
}

// stacks are rows of up to three states of m that may be pushed, the last one last.
func stacks(m api.Mod) [][]int {
	var all [][]int
	row := [][]int{nil}
	for i := range 3 {
		var longer [][]int
		for _, l := range row {
			for p, k := range m.Of {
				if (k == 0) == (i == 0) {
					longer = append(longer, append(slices.Clone(l), p))
				}
			}
		}
		all, row = append(all, longer...), longer
	}
	return all
}

// plainReached is what P1302 says of Reached: steps that are gone through till none leads to another state.
func plainReached(m api.Mod) []bool {
	is := make([]bool, len(m.Of))
	is[m.Entry[0]] = true
	for done := false; !done; {
		done = true
		mark := func(p int) {
			if !is[p] {
				is[p], done = true, false
			}
		}
		for p := range is {
			if !is[p] {
				continue
			}
			for _, q := range slices.Concat(m.In[p], m.Low[p], m.Entry) {
				mark(q)
			}
			for _, l := range m.Ret[p] {
				for q, to := range l {
					if is[q] {
						mark(to)
					}
				}
			}
		}
	}
	return is
}

// plainApart tells of each two states whether they must be of two classes, by what P1302 says of Classes, gone through till it says so of no others.
func plainApart(m api.Mod, is []bool) [][]bool {
	n := len(m.Of)
	apart := make([][]bool, n)
	for p := range apart {
		apart[p] = make([]bool, n)
		for q := range apart[p] {
			apart[p][q] = m.Of[p] != m.Of[q] || m.Final[p] != m.Final[q]
		}
	}
	must := func(p, q int) bool {
		for i := range m.Plains {
			if apart[m.In[p][i]][m.In[q][i]] {
				return true
			}
		}
		for j := range m.Closings {
			if m.Of[p] == 0 && apart[m.Low[p][j]][m.Low[q][j]] {
				return true
			}
			for r := range n {
				if is[r] && m.Of[p] > 0 && apart[m.Ret[p][j][r]][m.Ret[q][j][r]] {
					return true
				}
				if is[r] && m.Of[r] > 0 && apart[m.Ret[r][j][p]][m.Ret[r][j][q]] {
					return true
				}
			}
		}
		return false
	}
	for done := false; !done; {
		done = true
		for p := range n {
			for q := range n {
				if is[p] && is[q] && !apart[p][q] && must(p, q) {
					apart[p][q], done = true, false
				}
			}
		}
	}
	return apart
}

// plainClasses is what P1302 says of Classes.
func plainClasses(m api.Mod) []int {
	is := plainReached(m)
	apart := plainApart(m, is)
	class, many := filled(len(m.Of), -1), 0
	for p := range class {
		if is[p] && class[p] < 0 {
			for q := range class {
				if is[q] && !apart[p][q] {
					class[q] = many
				}
			}
			many++
		}
	}
	return class
}

// plainSmall is the machine of m's classes: by any states of each, the last ones.
func plainSmall(m api.Mod) api.Mod {
	class := plainClasses(m)
	n := slices.Max(class) + 1
	s := api.Mod{Plains: m.Plains, Closings: m.Closings, Of: make([]int, n), Final: make([]bool, n), In: make([][]int, n), Low: make([][]int, n), Ret: make([][][]int, n)}
	for _, p := range m.Entry {
		s.Entry = append(s.Entry, class[p])
	}
	for p, c := range class {
		if c < 0 {
			continue
		}
		s.Of[c], s.Final[c], s.In[c], s.Low[c], s.Ret[c] = m.Of[p], m.Final[p], nil, nil, nil
		for _, q := range m.In[p] {
			s.In[c] = append(s.In[c], class[q])
		}
		for _, q := range m.Low[p] {
			s.Low[c] = append(s.Low[c], class[q])
		}
		for _, l := range m.Ret[p] {
			row := make([]int, n)
			for q, to := range l {
				if class[q] >= 0 {
					row[class[q]] = class[to]
				}
			}
			s.Ret[c] = append(s.Ret[c], row)
		}
	}
	return s
}
