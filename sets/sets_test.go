package sets_test

import (
	"math"
	"math/rand"
	"slices"
	"testing"

	"canopy/api"
	"canopy/sets"
)

// row makes pairs of numbers: A, B, A, B ..
func row(n ...int) []api.Pair {
	var p []api.Pair
	for i := 0; i+1 < len(n); i += 2 {
		p = append(p, api.Pair{A: n[i], B: n[i+1]})
	}
	return p
}

// room is l with spare room behind it, filled with v.
func room[T any](l []T, v T) []T {
	out := slices.Grow(slices.Clone(l), 8)
	for i := len(out); i < cap(out); i++ {
		out[:cap(out)][i] = v
	}
	return out
}

// spoil writes v over all of l, its spare room too.
func spoil[T any](l []T, v T) {
	l = l[:cap(l)]
	for i := range l {
		l[i] = v
	}
}

// edges are numbers at which arithmetic of 32 and of 64 bits turns round.
func edges() []int {
	return []int{0, 1, -1, math.MaxInt32, math.MinInt32, math.MaxInt32 + 1, math.MinInt32 - 1, math.MaxUint32, 1 << 32, -1 << 32, math.MaxInt, math.MinInt, math.MaxInt - 1, math.MinInt + 1}
}

// P201
func TestInts(t *testing.T) {
	for _, x := range []struct{ l, want []int }{
		{nil, nil},
		{[]int{}, nil},
		{[]int{0}, []int{0}},
		{[]int{7, 7, 7}, []int{7}},
		{[]int{1, 2, 3}, []int{1, 2, 3}},
		{[]int{3, 1, 2, 1, 3}, []int{1, 2, 3}},
		{[]int{-2, 10, 9, -10}, []int{-10, -2, 9, 10}},
		{[]int{math.MaxInt, math.MinInt, 0, math.MinInt, -1}, []int{math.MinInt, -1, 0, math.MaxInt}},
	} {
		if got := sets.Ints(x.l...); !slices.Equal(got, x.want) {
			t.Errorf("Ints of %v: %v, not %v", x.l, got, x.want)
		}
	}
}

// P201
func TestPairs(t *testing.T) {
	for _, x := range []struct{ l, want []api.Pair }{
		{nil, nil},
		{[]api.Pair{}, nil},
		{row(0, 0), row(0, 0)},
		{row(5, 6, 5, 6), row(5, 6)},
		{row(1, 2, 2, 1), row(1, 2, 2, 1)},
		{row(2, 1, 1, 2), row(1, 2, 2, 1)},
		{row(1, 9, 1, -9, 1, 9, 0, 100, 1, 0), row(0, 100, 1, -9, 1, 0, 1, 9)},
		{row(math.MaxInt, 0, math.MinInt, 0, 0, math.MaxInt, 0, math.MinInt), row(math.MinInt, 0, 0, math.MinInt, 0, math.MaxInt, math.MaxInt, 0)},
	} {
		if got := sets.Pairs(x.l...); !slices.Equal(got, x.want) {
			t.Errorf("Pairs of %v: %v, not %v", x.l, got, x.want)
		}
	}
}

// P201
func TestBothJoin(t *testing.T) {
	for _, x := range []struct{ a, b, both, join []api.Pair }{
		{nil, nil, nil, nil},
		{[]api.Pair{}, nil, nil, nil},
		{row(2, 2, 1, 1, 2, 2), nil, nil, row(1, 1, 2, 2)},
		{row(1, 1), row(1, 1), row(1, 1), row(1, 1)},
		{row(1, 2), row(2, 1), nil, row(1, 2, 2, 1)},
		{row(1, 1, 1, 1), row(2, 2), nil, row(1, 1, 2, 2)},
		{row(3, 3, 1, 1, 3, 3, 2, 2), row(3, 3, 4, 4, 1, 1, 4, 4), row(1, 1, 3, 3), row(1, 1, 2, 2, 3, 3, 4, 4)},
		{row(1, 1, 2, 2), row(3, 3, 4, 4), nil, row(1, 1, 2, 2, 3, 3, 4, 4)},
		{row(1, 5, 1, 6, 1, 7), row(1, 6), row(1, 6), row(1, 5, 1, 6, 1, 7)},
		{row(math.MinInt, 1, math.MaxInt, 1), row(math.MaxInt, 1, 0, 0), row(math.MaxInt, 1), row(math.MinInt, 1, 0, 0, math.MaxInt, 1)},
	} {
		for _, y := range [][2][]api.Pair{{x.a, x.b}, {x.b, x.a}} {
			if got := sets.Both(y[0], y[1]); !slices.Equal(got, x.both) {
				t.Errorf("Both of %v: %v, not %v", y, got, x.both)
			}
			if got := sets.Join(y[0], y[1]); !slices.Equal(got, x.join) {
				t.Errorf("Join of %v: %v, not %v", y, got, x.join)
			}
		}
	}
}

// less is the order of pairs by other means.
func less(p, q api.Pair) bool { return p.A < q.A || p.A == q.A && p.B < q.B }

// chosen is what of a and b keep says yes to, put in order one by one.
func chosen(a, b []api.Pair, keep func(p api.Pair) bool) []api.Pair {
	var out []api.Pair
	for _, p := range slices.Concat(a, b) {
		if slices.Contains(out, p) || !keep(p) {
			continue
		}
		i := 0
		for i < len(out) && less(out[i], p) {
			i++
		}
		out = slices.Insert(out, i, p)
	}
	return out
}

// anyRow is up to most pairs of a few numbers, so that many come again.
func anyRow(r *rand.Rand, most int) []api.Pair {
	few := []int{0, 1, 2, -1, math.MaxInt, math.MinInt}
	var p []api.Pair
	for range r.Intn(most + 1) {
		p = append(p, api.Pair{A: few[r.Intn(len(few))], B: few[r.Intn(len(few))]})
	}
	return p
}

// P201, P3
func TestAnyPairs(t *testing.T) {
	r := rand.New(rand.NewSource(1))
	for range 3000 {
		a, b := anyRow(r, 40), anyRow(r, 40)
		pairs := chosen(a, nil, func(api.Pair) bool { return true })
		both := chosen(a, b, func(p api.Pair) bool { return slices.Contains(a, p) && slices.Contains(b, p) })
		join := chosen(a, b, func(api.Pair) bool { return true })
		for range 2 {
			if got := sets.Pairs(a...); !slices.Equal(got, pairs) {
				t.Fatalf("Pairs of %v: %v, not %v", a, got, pairs)
			}
			if got := sets.Both(a, b); !slices.Equal(got, both) {
				t.Fatalf("Both of %v, %v: %v, not %v", a, b, got, both)
			}
			if got := sets.Join(a, b); !slices.Equal(got, join) {
				t.Fatalf("Join of %v, %v: %v, not %v", a, b, got, join)
			}
		}
	}
}

// P201
func TestPack(t *testing.T) {
	for _, x := range []struct {
		a, b int
		want uint64
	}{
		{0, 0, 0},
		{1, 2, 4294967298},
		{0, 1, 1},
		{1, 0, 1 << 32},
		{-1, 0, 0xffffffff_00000000},
		{0, -1, 0x00000000_ffffffff},
		{-1, -1, math.MaxUint64},
		{math.MaxInt32, math.MinInt32, 0x7fffffff_80000000},
		{1<<32 | 5, -1<<32 | 7, 0x00000005_00000007},
		{math.MinInt, math.MaxInt, 0x00000000_ffffffff},
		{0x12345678_9abcdef0, 0x0fedcba9_87654321, 0x9abcdef0_87654321},
	} {
		if got := sets.Pack(x.a, x.b); got != x.want {
			t.Errorf("Pack of %d, %d: %#x, not %#x", x.a, x.b, got, x.want)
		}
	}
}

// P201
func TestUnpack(t *testing.T) {
	for _, x := range []struct {
		u    uint64
		a, b int
	}{
		{0, 0, 0},
		{4294967298, 1, 2},
		{0x7fffffff_80000000, math.MaxInt32, math.MinInt32},
		{0x80000000_7fffffff, math.MinInt32, math.MaxInt32},
		{math.MaxUint64, -1, -1},
		{0xffffffff, 0, -1},
		{1 << 63, math.MinInt32, 0},
	} {
		if a, b := sets.Unpack(x.u); a != x.a || b != x.b {
			t.Errorf("Unpack of %#x: %d, %d, not %d, %d", x.u, a, b, x.a, x.b)
		}
		if got := sets.Pack(x.a, x.b); got != x.u {
			t.Errorf("Pack of %d, %d: %#x, not %#x", x.a, x.b, got, x.u)
		}
	}
}

// low is what the lowest 32 bits of n are as a number with a sign, by counting.
func low(n int) int {
	n %= 1 << 32
	switch {
	case n >= 1<<31:
		return n - 1<<32
	case n < -1<<31:
		return n + 1<<32
	}
	return n
}

// P201: what is packed comes out as it was, or turned round into 32 bits.
func TestPackUnpack(t *testing.T) {
	for _, a := range edges() {
		for _, b := range edges() {
			if c, d := sets.Unpack(sets.Pack(a, b)); c != low(a) || d != low(b) {
				t.Errorf("Unpack of Pack of %d, %d: %d, %d, not %d, %d", a, b, c, d, low(a), low(b))
			}
		}
	}
}

// P2: lists that are handed in stay, their spare room too, and answers share nothing with them.
func TestHandedInStays(t *testing.T) {
	extra := api.Pair{A: 66, B: 66}
	n := room([]int{3, 1, 3, 2}, 77)
	for _, a := range [][]api.Pair{row(3, 3, 1, 1, 3, 3, 2, 2), row(1, 1, 2, 2, 3, 3)} {
		a, b := room(a, extra), room(row(3, 3, 3, 3, 1, 1, 0, 0), extra)
		wasN, wasA, wasB := slices.Clone(n[:cap(n)]), slices.Clone(a[:cap(a)]), slices.Clone(b[:cap(b)])
		spoil(sets.Ints(n...), -5)
		spoil(sets.Pairs(a...), api.Pair{A: -5})
		spoil(sets.Both(a, b), api.Pair{A: -5})
		spoil(sets.Both(a, a), api.Pair{A: -5})
		spoil(sets.Join(a, b), api.Pair{A: -5})
		spoil(sets.Join(a, nil), api.Pair{A: -5})
		spoil(sets.Join(nil, a[:1]), api.Pair{A: -5})
		if !slices.Equal(n[:cap(n)], wasN) || !slices.Equal(a[:cap(a)], wasA) || !slices.Equal(b[:cap(b)], wasB) {
			t.Errorf("what was handed in is changed: %v, %v, %v", n[:cap(n)], a[:cap(a)], b[:cap(b)])
		}
	}
}

// Long lists, of one pair again and again, of pairs that fall, and in order already.
func TestLongLists(t *testing.T) {
	const n = 1 << 18
	var same, falling, rising []api.Pair
	for i := range n {
		same = append(same, api.Pair{A: 4, B: 4})
		falling = append(falling, api.Pair{A: n - i, B: i})
		rising = append(rising, api.Pair{A: i + 1, B: n - 1 - i})
	}
	if got := sets.Pairs(same...); !slices.Equal(got, row(4, 4)) {
		t.Errorf("Pairs of one pair often: %d", len(got))
	}
	if !slices.Equal(sets.Pairs(falling...), rising) || !slices.Equal(sets.Both(rising, falling), rising) || !slices.Equal(sets.Join(falling, rising), rising) {
		t.Error("Pairs, Both, Join of long lists")
	}
}
