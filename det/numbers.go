package det

import (
	"canopy/api"
	"canopy/sets"
)

// numbers are those of the rows that have come. Sets of Bs have numbers too, so that in the table a row is one pair of each A, however many Bs there are.
type numbers struct {
	bs   map[states]int
	rows *sets.Table
}

// noNumbers are those of no rows.
func noNumbers() numbers { return numbers{map[states]int{}, sets.New()} }

// of is the number of a row, and whether it is new.
func (n numbers) of(row pairs) (int, bool) {
	short := make([]api.Pair, 0, len(row))
	for _, e := range row {
		short = append(short, api.Pair{A: e.a, B: n.set(e.bs)})
	}
	return n.rows.Put(short)
}

// set is the number of a set of Bs.
func (n numbers) set(bs states) int {
	i, old := n.bs[bs]
	if !old {
		i = len(n.bs)
		n.bs[bs] = i
	}
	return i
}
