package sets_test

import (
	"fmt"
	"math"
	"math/rand"
	"slices"
	"testing"

	"canopy/api"
	"canopy/sets"
)

// put fails unless Put of p answers n and fresh.
func put(t *testing.T, s *sets.Table, p []api.Pair, n int, fresh bool) {
	t.Helper()
	if got, is := s.Put(p); got != n || is != fresh {
		t.Errorf("Put of %v: %d, %v, not %d, %v", p, got, is, n, fresh)
	}
}

// find fails unless Find of p answers n and there.
func find(t *testing.T, s *sets.Table, p []api.Pair, n int, there bool) {
	t.Helper()
	if got, is := s.Find(p); got != n || is != there {
		t.Errorf("Find of %v: %d, %v, not %d, %v", p, got, is, n, there)
	}
}

// rowIs fails unless Row of i is want.
func rowIs(t *testing.T, s *sets.Table, i int, want []api.Pair) {
	t.Helper()
	if got := s.Row(i); !slices.Equal(got, want) {
		t.Errorf("Row of %d: %v, not %v", i, got, want)
	}
}

// length fails unless there are n rows.
func length(t *testing.T, s *sets.Table, n int) {
	t.Helper()
	if got := s.Len(); got != n {
		t.Errorf("Len: %d, not %d", got, n)
	}
}

// P202
func TestTable(t *testing.T) {
	s := sets.New()
	length(t, s, 0)
	put(t, s, row(2, 2, 1, 1, 2, 2), 0, true)
	put(t, s, row(1, 1), 1, true)
	put(t, s, row(1, 1, 2, 2), 0, false)
	put(t, s, nil, 2, true)
	put(t, s, []api.Pair{}, 2, false)
	put(t, s, row(2, 2), 3, true)
	put(t, s, row(1, 1, 1, 1, 1, 1), 1, false)
	put(t, s, row(-1, math.MaxInt, math.MinInt, 0), 4, true)
	length(t, s, 5)
	find(t, s, row(2, 2, 1, 1), 0, true)
	find(t, s, row(1, 1), 1, true)
	find(t, s, nil, 2, true)
	find(t, s, []api.Pair{}, 2, true)
	find(t, s, row(2, 2, 2, 2), 3, true)
	find(t, s, row(math.MinInt, 0, -1, math.MaxInt), 4, true)
	rowIs(t, s, 0, row(1, 1, 2, 2))
	rowIs(t, s, 1, row(1, 1))
	rowIs(t, s, 2, nil)
	rowIs(t, s, 3, row(2, 2))
	rowIs(t, s, 4, row(math.MinInt, 0, -1, math.MaxInt))
	length(t, s, 5)
}

// P202, P4: what is not there is not found, and to ask for it does not put it.
func TestNotThere(t *testing.T) {
	s := sets.New()
	find(t, s, nil, 0, false)
	find(t, s, row(1, 1), 0, false)
	for _, i := range edges() {
		rowIs(t, s, i, nil)
	}
	length(t, s, 0)
	put(t, s, row(9, 9), 0, true)
	put(t, s, row(1, 1, 2, 2), 1, true)
	for _, p := range [][]api.Pair{nil, row(1, 1), row(2, 2), row(1, 2), row(2, 1), row(1, 1, 2, 2, 3, 3), row(0, 0, 1, 1, 2, 2), row(1, 1, 2, 3)} {
		find(t, s, p, 0, false)
	}
	for _, i := range []int{-1, 2, 3, math.MaxInt, math.MinInt} {
		rowIs(t, s, i, nil)
	}
	length(t, s, 2)
	put(t, s, nil, 2, true)
}

// P202: rows of every length, each the front of the next one, put from both sides.
func TestFronts(t *testing.T) {
	const n = 70
	var all []api.Pair
	for i := range n {
		all = append(all, api.Pair{A: i / 5, B: i % 5})
	}
	up, down := sets.New(), sets.New()
	for i := range n + 1 {
		find(t, up, all[:i], 0, false)
		put(t, up, all[:i], i, true)
		find(t, down, all[:n-i], 0, false)
		put(t, down, all[:n-i], i, true)
	}
	for i := range n + 1 {
		put(t, up, all[:i], i, false)
		put(t, down, all[:n-i], i, false)
		rowIs(t, up, i, all[:i])
		rowIs(t, down, i, all[:n-i])
	}
	length(t, up, n+1)
	length(t, down, n+1)
}

// P202: pairs of 0, or of small numbers, are pairs like others: all rows that may be made of twelve of them are rows of their own.
func TestAllRowsOfTwelve(t *testing.T) {
	for _, nth := range []func(i int) api.Pair{
		func(i int) api.Pair { return api.Pair{A: 0, B: i - 3} },
		func(i int) api.Pair { return api.Pair{A: i - 3, B: 0} },
		func(i int) api.Pair { return api.Pair{A: i / 6, B: i%6 + 3} },
	} {
		s := sets.New()
		for choice := range 1 << 12 {
			var p []api.Pair
			for i := range 12 {
				if choice>>i&1 == 1 {
					p = append(p, nth(i))
				}
			}
			find(t, s, p, 0, false)
			put(t, s, p, choice, true)
			find(t, s, p, choice, true)
			rowIs(t, s, choice, p)
		}
		length(t, s, 1<<12)
	}
}

// P202, P3: as a list of rows would answer; and two tables, side by side, do not touch one another (P7).
func TestAnyRows(t *testing.T) {
	r := rand.New(rand.NewSource(2))
	for range 60 {
		s, same, other := sets.New(), sets.New(), sets.New()
		other.Put(row(1, 1))
		var rows []string
		for range 150 {
			p := anyRow(r, []int{3, 9, 60}[r.Intn(3)])
			key := fmt.Sprint(chosen(p, nil, func(api.Pair) bool { return true }))
			want := slices.Index(rows, key)
			find(t, s, p, max(want, 0), want >= 0)
			if r.Intn(2) == 0 {
				continue
			}
			if want < 0 {
				rows = append(rows, key)
				put(t, s, p, len(rows)-1, true)
				put(t, same, p, len(rows)-1, true)
			} else {
				put(t, s, p, want, false)
			}
		}
		for i, key := range rows {
			if got, too := fmt.Sprint(s.Row(i)), fmt.Sprint(same.Row(i)); got != key || too != key {
				t.Fatalf("Row of %d: %s, %s, not %s", i, got, too, key)
			}
		}
		length(t, s, len(rows))
		length(t, same, len(rows))
		length(t, other, 1)
		rowIs(t, other, 0, row(1, 1))
	}
}

// P2: what is put stays as it is, its spare room too, and the table keeps none of it; its answers are nobody else's.
func TestTableKeepsItsOwn(t *testing.T) {
	s := sets.New()
	for i, p := range [][]api.Pair{row(3, 3, 1, 1, 3, 3, 2, 2), row(1, 1, 5, 5), row(6, 6)} {
		p, want := room(p, api.Pair{A: 66}), sets.Pairs(p...)
		was := slices.Clone(p[:cap(p)])
		put(t, s, p, i, true)
		find(t, s, p, i, true)
		put(t, s, p, i, false)
		if !slices.Equal(p[:cap(p)], was) {
			t.Errorf("what was handed in is changed: %v", p[:cap(p)])
		}
		spoil(p, api.Pair{A: -5})
		rowIs(t, s, i, want)
		spoil(s.Row(i), api.Pair{A: -6})
		rowIs(t, s, i, want)
		find(t, s, want, i, true)
	}
	length(t, s, 3)
}

// P2, P202: a row that a table answered, put into another one, and into itself.
func TestRowsOfTables(t *testing.T) {
	s, o := sets.New(), sets.New()
	put(t, s, row(4, 4, 2, 2), 0, true)
	put(t, o, nil, 0, true)
	put(t, o, s.Row(0), 1, true)
	put(t, s, o.Row(1), 0, false)
	put(t, s, s.Row(7), 1, true)
	spoil(o.Row(1), api.Pair{A: -5})
	rowIs(t, s, 0, row(2, 2, 4, 4))
}

// P1: a table that New has not made does no harm.
func TestTableOfItsZeroValue(t *testing.T) {
	var s sets.Table
	find(t, &s, row(1, 1), 0, false)
	rowIs(t, &s, 0, nil)
	length(t, &s, 0)
	put(t, &s, row(1, 1), 0, true)
	find(t, &s, row(1, 1), 0, true)
}

// Many rows, and long ones.
func TestManyRows(t *testing.T) {
	const n = 20000
	s := sets.New()
	for i := range n {
		put(t, s, row(i%100, i, i/100, -i), i, true)
	}
	var long []api.Pair
	for i := range n {
		long = append(long, api.Pair{A: i % 7, B: i})
	}
	put(t, s, long, n, true)
	put(t, s, long[1:], n+1, true)
	put(t, s, long[:n-1], n+2, true)
	for i := range n {
		find(t, s, row(i/100, -i, i%100, i), i, true)
	}
	find(t, s, long, n, true)
	length(t, s, n+3)
}
