package fold_test

import (
	"math/rand"
	"slices"
	"testing"

	"canopy/api"
	"canopy/fold"
)

// rising is 0 to n - 1.
func rising(n int) []int {
	l := make([]int, n)
	for i := range l {
		l[i] = i
	}
	return l
}

// distinct fails unless each state is a class of its own.
func distinct(t *testing.T, what string, m api.Mod) {
	t.Helper()
	isMod(t, m)
	if got := fold.Classes(m); !slices.Equal(got, rising(len(m.Of))) {
		t.Errorf("P1302: %s: Classes %v", what, got)
	}
	if s := small(t, m); !same(s, m) {
		t.Errorf("P1302: %s: Small %v", what, s)
	}
}

// P1302: chains of 60 states, of which each is parted from the others by the one behind it alone.
func TestChains(t *testing.T) {
	up := alone(60)
	for p := range 59 {
		up.In[p][0] = p + 1
	}
	up.In[59][0] = 59
	up.Final[59] = true
	distinct(t, "plain", up)

	low := blank(filled(60, 0), 0, 1)
	for p := range 60 {
		low.Low[p][0] = max(0, p-1)
	}
	low.Entry[0], low.Final[0] = 59, true
	distinct(t, "closing", low)

	// 58 states of a module, of which each, pushed, is led by itself to the one behind it
	nest := blank(append([]int{0, 0}, filled(58, 1)...), 1, 1)
	for p := 2; p < 60; p++ {
		nest.In[p][0] = min(59, p+1)
		for q := 2; q < 60; q++ {
			nest.Ret[p][0][q] = max(2, q-1)
		}
		nest.Ret[p][0][0], nest.Ret[p][0][1] = 0, 1
	}
	nest.Ret[2][0][0] = 1
	nest.Final[1] = true
	for p := 3; p < 60; p++ {
		nest.Ret[p][0][0] = 0
	}
	distinct(t, "pushed", nest)
}

// P1302: 59 states of the base, which are told apart by what the module behind it makes of them as they are pushed, one by one.
func TestPushedChain(t *testing.T) {
	m := blank(append(filled(59, 0), 1), 1, 1)
	for p := range 59 {
		m.In[p][0] = (p + 1) % 59
		m.Ret[59][0][p] = max(0, p-1)
		m.Low[p][0] = p
	}
	m.Final[0] = true
	distinct(t, "pushed", m)
	// without a state that is Final there is nothing by which they are
	m.Final[0] = false
	if got := fold.Classes(m); !slices.Equal(got, append(filled(59, 0), 1)) {
		t.Errorf("P1302: Classes %v", got)
	}
}

// P1302: the last of as many modules, of symbols as there may be.
func TestLast(t *testing.T) {
	m, _ := lastOf()
	distinct(t, "the last symbols", m)
	if is := fold.Reached(m); slices.Contains(is, false) {
		t.Errorf("P1302: Reached %v", is)
	}
	// without the last way of all, 2 is as 0 but for its plain symbol
	m.Ret[22][19][2] = 2
	m.In[2][19] = 1
	if got, want := fold.Classes(m), append([]int{0, 1, 0}, rising(22)[2:]...); !slices.Equal(got, want) {
		t.Errorf("P1302: Classes %v, not %v", got, want)
	}
}

// P1302: any machines of as many states, modules and symbols as there may be.
func TestGreatest(t *testing.T) {
	r := rand.New(rand.NewSource(9))
	for i := range 30 {
		m := small(t, anyMod(r, 2+r.Intn(6), 3, 1+r.Intn(20), 1+r.Intn(20)))
		if i%3 == 0 {
			m = small(t, anyMod(r, 21, 2, 20, 20))
		}
		b, _ := blown(r, m, 60)
		if n := len(b.Of); n > 60 {
			refused(t, "more than 60 states", b)
			continue
		}
		isMod(t, b)
		if s := small(t, b); len(s.Of) != len(m.Of) || !same(s, plainSmall(b)) || !slices.Equal(fold.Reached(b), plainReached(b)) {
			t.Fatalf("P1302: Small of %d states: %d, not %d", len(b.Of), len(s.Of), len(m.Of))
		}
	}
}

// P2: what is handed in stays, its spare room too, and is not kept.
func TestHandedIn(t *testing.T) {
	some(t, 10, 1000, func(r *rand.Rand, plainly api.Mod) {
		m, w := roomy(plainly), room(anyWord(r, plainly, 20), api.Pair{A: -7})
		was, word := roomy(whole(m)), slices.Clone(w[:cap(w)])
		e, takes, is, class, s := fold.Check(m), fold.Takes(m, w), fold.Reached(m), fold.Classes(m), small(t, m)
		if !same(whole(m), was) || !slices.Equal(w[:cap(w)], word) {
			t.Fatalf("P2: %v, %v is changed", plainly, word)
		}
		ruin(m)
		if e != api.OK || takes != plainTakes(plainly, word[:len(w)]) || !slices.Equal(is, plainReached(plainly)) || !slices.Equal(class, plainClasses(plainly)) || !same(s, plainSmall(plainly)) {
			t.Fatalf("P2: what was told of %v is changed, once that is written over", plainly)
		}
	})
}

// P2: what is answered is new, its spare room too.
func TestAnswered(t *testing.T) {
	some(t, 11, 1000, func(r *rand.Rand, plainly api.Mod) {
		m := roomy(plainly)
		was := roomy(whole(m))
		want := plainSmall(plainly)
		is, class := plainReached(plainly), plainClasses(plainly)
		over(fold.Reached(m), !is[0])
		over(fold.Classes(m), -9)
		ruin(small(t, m))
		if !same(whole(m), was) || !same(small(t, m), want) || !slices.Equal(fold.Reached(m), is) || !slices.Equal(fold.Classes(m), class) {
			t.Fatalf("P2: %v, after what was answered is written over", plainly)
		}
	})
}

// marked fails unless the lists, and what room they have, are apart: what is written to one is in no other one.
func marked[T any](t *testing.T, lists [][]T, mark func(i int) T, is func(v T, i int) bool) {
	t.Helper()
	for i, l := range lists {
		over(l, mark(i))
	}
	for i, l := range lists {
		for _, v := range l[:cap(l)] {
			if !is(v, i) {
				t.Fatal("P2: two lists of one answer share room")
			}
		}
	}
}

// P2: no two lists of one answer share any room.
func TestApart(t *testing.T) {
	some(t, 12, 500, func(r *rand.Rand, m api.Mod) {
		s := small(t, m)
		marked(t, lists(s), func(i int) int { return i }, func(v, i int) bool { return v == i })
		s = small(t, m)
		rows := append([][][]int{s.In, s.Low}, s.Ret...)
		marked(t, rows, func(i int) []int { return []int{i} }, func(v []int, i int) bool { return v[0] == i })
	})
}

// P3: what is told hangs on nothing that was asked ahead.
func TestInAnyOrder(t *testing.T) {
	a, b := sample(), alone(7)
	first := []any{fold.Classes(a), fold.Reached(a), small(t, a)}
	refused(t, "none", api.Mod{})
	small(t, b)
	fold.Takes(b, []api.Pair{plain(0)})
	if s := small(t, a); !same(s, first[2].(api.Mod)) || !slices.Equal(fold.Classes(a), first[0].([]int)) || !slices.Equal(fold.Reached(a), first[1].([]bool)) {
		t.Error("P3: another answer, once others were asked for")
	}
}
