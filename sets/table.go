package sets

import (
	"slices"

	"canopy/api"
)

// piece is how many pairs stand in one link at most. With 7 a link has 128 bytes: a greater key costs a map an allocation of its own.
const piece = 7

// start is where every row's links begin.
const start = 0

// link is a key: a row is no key, as it has no fixed length, so it is cut into pieces that are. First stands where the link goes on from, and how many pairs it holds; then these.
type link [1 + piece]api.Pair

// Table is rows, each once. A link that is full leads on to a place of its own; the last one of a row never is (it may hold nothing), and leads to the row's number.
type Table struct {
	rows  [][]api.Pair
	links map[link]int
}

// New is a table without rows.
func New() *Table { return &Table{} }

// Put tells p's number, and whether it is new.
func (t *Table) Put(p []api.Pair) (int, bool) {
	row := Pairs(p...)
	if n, ok := t.find(row); ok {
		return n, false
	}
	return t.add(row), true
}

// Find tells p's number; false: it is not there.
func (t *Table) Find(p []api.Pair) (int, bool) {
	return t.find(Pairs(p...))
}

// Row is the row of number i; nothing, if there is none.
func (t *Table) Row(i int) []api.Pair {
	if i < 0 || i >= len(t.rows) {
		return nil
	}
	return slices.Clone(t.rows[i])
}

// Len tells how many rows there are.
func (t *Table) Len() int { return len(t.rows) }

// find tells the number of a row that is as Pairs.
func (t *Table) find(row []api.Pair) (int, bool) {
	at := start
	for len(row) >= piece {
		next, ok := t.links[linkOf(at, row[:piece])]
		if !ok {
			return 0, false
		}
		at, row = next, row[piece:]
	}
	n, ok := t.links[linkOf(at, row)]
	return n, ok
}

// add gives a row that is as Pairs, and not there, the next number.
func (t *Table) add(row []api.Pair) int {
	if t.links == nil { // here and not in New, so that a Table of its zero value may be used too
		t.links = map[link]int{}
	}
	n := len(t.rows)
	// A copy, as behind row there may be much room that Pairs has left.
	t.rows = append(t.rows, slices.Clone(row))
	at := start
	for len(row) >= piece {
		at, row = t.lead(at, row[:piece]), row[piece:]
	}
	t.links[linkOf(at, row)] = n
	return n
}

// lead is where a full link leads, which is a new place, if the link is new.
func (t *Table) lead(at int, full []api.Pair) int {
	k := linkOf(at, full)
	next, ok := t.links[k]
	if !ok {
		next = len(t.links) + 1 // the links never grow fewer, so no other place has this number
		t.links[k] = next
	}
	return next
}

// linkOf is the link from a place by at most piece pairs.
func linkOf(at int, p []api.Pair) link {
	k := link{{A: at, B: len(p)}}
	copy(k[1:], p)
	return k
}
