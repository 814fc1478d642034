package fold

import (
	"canopy/api"
)

// classes are the classes of the states, numbered by their least states. An array, so that what a round has made is held against what was ahead of it.
type classes [maxStates]int8

// view is what is seen of a state: its class, and those of the states to which it leads in some way.
type view [1 + maxStates]int8

// tally numbers views as they come.
type tally map[view]int8

// of is v's number.
func (t tally) of(v view) int8 {
	n, old := t[v]
	if !old {
		n = int8(len(t))
		t[v] = n
	}
	return n
}

// classesOf are the classes of m's states, all of which are reached.
func classesOf(m api.Mod) []int {
	return settled(m).numbers(len(m.Of))
}

// settled are the classes, as few as may be: those of a word of nothing, parted till no way to go on parts them any more.
func settled(m api.Mod) classes {
	c, ways := first(m), waysOf(m)
	for {
		next := c
		for _, rows := range ways {
			next = next.parted(rows)
		}
		if next == c {
			return c
		}
		c = next
	}
}

// first are the classes of a word of nothing.
func first(m api.Mod) classes {
	var c classes
	t := tally{}
	for p, k := range m.Of {
		v := view{int8(k)}
		if m.Final[p] {
			v[1] = 1
		}
		c[p] = t.of(v)
	}
	return c
}

// parted are the classes, those parted whose states lead to others; rows are where each state leads, of one module in one order.
func (c classes) parted(rows [][]int) classes {
	var next classes
	t := tally{}
	for p, row := range rows {
		v := view{c[p]}
		for i, q := range row {
			v[1+i] = c[q]
		}
		next[p] = t.of(v)
	}
	return next
}

// numbers are the classes of the first n states.
func (c classes) numbers(n int) []int {
	l := make([]int, n)
	for p := range l {
		l[p] = int(c[p])
	}
	return l
}

// waysOf are the ways to go on: of each the rows of all states.
func waysOf(m api.Mod) [][][]int {
	ways := [][][]int{m.In, m.Low}
	for j := range m.Closings {
		ways = append(ways, above(m, j), below(m, j))
	}
	return ways
}

// above are the rows of where each state leads by a closing symbol, by what was pushed.
func above(m api.Mod, j int) [][]int {
	rows := make([][]int, len(m.Of))
	for p, k := range m.Of {
		if k != base {
			rows[p] = m.Ret[p][j]
		}
	}
	return rows
}

// below are the rows of where each state, pushed, is led by a closing symbol, by where that comes.
func below(m api.Mod, j int) [][]int {
	rows := make([][]int, len(m.Of))
	for p, k := range m.Of {
		if k == base {
			continue
		}
		for q, to := range m.Ret[p][j] {
			rows[q] = append(rows[q], to)
		}
	}
	return rows
}
