package fold_test

import (
	"fmt"
	"math"
	"math/rand"
	"slices"
	"testing"

	"canopy/api"
	"canopy/fold"
)

// P1302: each kind of step; what closes goes by what was pushed last, or by nothing.
func TestTakes(t *testing.T) {
	m := sample()
	for i, c := range []struct {
		w    []api.Pair
		at   int
		pure bool // all that was pushed is taken away
	}{
		{nil, 0, true},
		{[]api.Pair{plain(0)}, 0, true},
		{[]api.Pair{plain(1)}, 2, true},
		{[]api.Pair{plain(1), plain(1)}, 0, true},
		{[]api.Pair{shut(0)}, 0, true},
		{[]api.Pair{shut(1)}, 0, true},
		{[]api.Pair{plain(1), shut(1)}, 2, true},
		{[]api.Pair{plain(1), shut(0)}, 0, true},
		{[]api.Pair{plain(1), shut(1), shut(1), shut(0), plain(1)}, 2, true},
		{[]api.Pair{open(0)}, 1, false},
		{[]api.Pair{open(1)}, 4, false},
		{[]api.Pair{open(0), plain(0)}, 3, false},
		{[]api.Pair{plain(1), open(0), shut(0)}, 2, true},
		{[]api.Pair{plain(1), open(0), plain(0), shut(1)}, 2, true},
		{[]api.Pair{plain(1), open(1), shut(0)}, 2, true},
		{[]api.Pair{plain(1), open(1), shut(1)}, 0, true},
		{[]api.Pair{open(1), shut(1)}, 2, true},
		{[]api.Pair{open(1), shut(1), open(1), shut(1)}, 0, true},
		{[]api.Pair{open(0), open(1), shut(1)}, 3, false},
		{[]api.Pair{open(0), open(1), shut(1), shut(0)}, 0, true},
		{[]api.Pair{open(1), open(1), shut(1), shut(1)}, 2, true},
		{[]api.Pair{open(1), open(1), open(0), shut(0), shut(0), shut(1), shut(1)}, 2, true},
	} {
		for p := range m.Of {
			m.Final = make([]bool, len(m.Of))
			m.Final[p] = true
			if got := fold.Takes(m, c.w); got != (p == c.at) {
				t.Errorf("P1302: Takes %d, %d Final: %v", i, p, got)
			}
		}
		if c.pure != (m.Of[c.at] == 0) {
			t.Errorf("%d: %d", i, c.at)
		}
	}
}

// P1302: a pair that is no symbol, wherever it stands.
func TestNoSymbol(t *testing.T) {
	m := sample()
	for p := range m.Final {
		m.Final[p] = true
	}
	fine := []api.Pair{open(0), plain(1), open(1), shut(1), shut(0), shut(0), open(1)}
	if !fold.Takes(m, fine) || !fold.Takes(m, nil) {
		t.Fatal("P1302: Takes")
	}
	ints := []int{math.MinInt, -1 << 32, -256, -1, 0, 1, 2, 3, 4, 20, 256, 1 << 32, math.MaxInt}
	for _, kind := range ints {
		for _, i := range ints {
			s := api.Pair{A: kind, B: i}
			want := kind >= 1 && kind <= 3 && i >= 0 && i < 2
			for at := range len(fine) + 1 {
				if got := fold.Takes(m, slices.Insert(slices.Clone(fine), at, s)); got != want {
					t.Fatalf("P1302: Takes with %v at %d: %v", s, at, got)
				}
			}
		}
	}
	for _, s := range []api.Pair{open(0), shut(0), plain(0)} {
		one := blank([]int{0}, 0, 0)
		one.Final[0] = true
		if fold.Takes(one, []api.Pair{s}) {
			t.Errorf("P1302: Takes %v, which it has not", s)
		}
	}
}

// P1302: any machines, any words.
func TestAnyWords(t *testing.T) {
	yes, no := 0, 0
	some(t, 2, 3000, func(r *rand.Rand, m api.Mod) {
		for range 20 {
			w := anyWord(r, m, 20)
			got := fold.Takes(m, w)
			if got != plainTakes(m, w) {
				t.Fatalf("P1302: Takes of %v, %v: %v", m, w, got)
			}
			if got {
				yes++
			} else {
				no++
			}
		}
	})
	if yes < 10000 || no < 10000 {
		t.Error(yes, no)
	}
}

// lastOf is a machine of as many modules and symbols as there may be, which goes on by the last of them; states 0 to 2 are the base's.
func lastOf() (api.Mod, []api.Pair) {
	of := filled(3, 0)
	for k := range 20 {
		of = append(of, k+1)
	}
	m := blank(of, 20, 20)
	m.Final[1] = true
	m.In[0][19] = 1
	m.Low[1][19] = 2
	m.Ret[22][19][2] = 1
	return m, []api.Pair{plain(19), shut(19), open(19), shut(19)}
}

// P1302: the last of as many symbols as there may be.
func TestLastSymbols(t *testing.T) {
	m, w := lastOf()
	isMod(t, m)
	for n, want := range []bool{false, true, false, false, true} {
		if got := fold.Takes(m, w[:n]); got != want {
			t.Errorf("P1302: Takes %v: %v", w[:n], got)
		}
	}
	for _, s := range []api.Pair{plain(20), shut(20), open(20)} {
		if m.Final[0] = true; fold.Takes(m, []api.Pair{s}) {
			t.Errorf("P1302: Takes %v", s)
		}
	}
}

// P1302: a long word, and a deep one.
func TestLongWords(t *testing.T) {
	const n = 1 << 20
	m := sample()
	w := slices.Concat(slices.Repeat([]api.Pair{open(1)}, n), slices.Repeat([]api.Pair{shut(1)}, n+1))
	for _, c := range []struct {
		long int
		want bool
	}{{n, false}, {2*n - 1, false}, {2 * n, true}, {2*n + 1, true}} {
		if fold.Takes(m, w[:c.long]) != c.want {
			t.Errorf("P1302: Takes of %d: %v", c.long, !c.want)
		}
	}
}

// P1302: what leads to a state, and what does not.
func TestReached(t *testing.T) {
	for i, c := range []struct {
		of    []int
		shape func(m *api.Mod)
		want  []bool
	}{
		{[]int{0}, func(m *api.Mod) {}, []bool{true}},
		{[]int{0, 0}, func(m *api.Mod) {}, []bool{true, false}},
		{[]int{0, 0}, func(m *api.Mod) { m.Entry[0] = 1 }, []bool{true, true}},
		{[]int{0, 0}, func(m *api.Mod) { m.Entry[0], m.In[1][0], m.Low[1][0] = 1, 1, 1 }, []bool{false, true}},
		{[]int{0, 0, 0}, func(m *api.Mod) { m.In[0][0], m.In[1][0] = 1, 2 }, []bool{true, true, true}},
		{[]int{0, 0, 0}, func(m *api.Mod) { m.Low[0][0], m.In[1][0] = 2, 1 }, []bool{true, false, true}},
		// each module is entered
		{[]int{0, 1, 2, 3}, func(m *api.Mod) {}, []bool{true, true, true, true}},
		{[]int{0, 1, 1}, func(m *api.Mod) {}, []bool{true, true, false}},
		{[]int{0, 1, 1}, func(m *api.Mod) { m.Entry[1], m.In[2][0] = 2, 2 }, []bool{true, false, true}},
		// by what was pushed: a state that is reached, and none else
		{[]int{0, 1, 0, 0}, func(m *api.Mod) { m.Ret[1][0][0] = 2 }, []bool{true, true, true, false}},
		{[]int{0, 1, 0, 0}, func(m *api.Mod) { m.Ret[1][0][2] = 3 }, []bool{true, true, false, false}},
		{[]int{0, 1, 0, 0}, func(m *api.Mod) { m.Ret[1][0][2], m.Ret[1][0][0] = 3, 2 }, []bool{true, true, true, true}},
		{[]int{0, 1, 0, 0}, func(m *api.Mod) { m.Ret[1][0][3], m.Ret[1][0][0] = 2, 3 }, []bool{true, true, true, true}},
		{[]int{0, 1, 1, 0}, func(m *api.Mod) { m.Ret[2][0][0] = 3 }, []bool{true, true, false, false}},
		{[]int{0, 1, 1, 0}, func(m *api.Mod) { m.Ret[2][0][0], m.In[1][0] = 3, 2 }, []bool{true, true, true, true}},
		// a state of a module that is entered within another one, or within itself, comes back there
		{[]int{0, 1, 1, 2}, func(m *api.Mod) { m.Ret[3][0][1] = 2 }, []bool{true, true, true, true}},
		{[]int{0, 1, 1, 0}, func(m *api.Mod) { m.Ret[1][0][1], m.Ret[2][0][0] = 2, 3 }, []bool{true, true, true, true}},
		{[]int{0, 1, 1, 0}, func(m *api.Mod) { m.Ret[2][0][2], m.Ret[2][0][0] = 1, 3 }, []bool{true, true, false, false}},
	} {
		m := blank(c.of, 1, 1)
		c.shape(&m)
		isMod(t, m)
		if got := fold.Reached(m); !slices.Equal(got, c.want) {
			t.Errorf("P1302: Reached %d: %v", i, got)
		}
		for p, n := range fold.Classes(m) {
			if (n >= 0) != c.want[p] {
				t.Errorf("P1302: Classes %d: %d of %d", i, n, p)
			}
		}
	}
}

// P1302: by words, of machines of few states. As many symbols as there are states, open at once, do: where more are, a state is come to twice.
func TestReachedByWords(t *testing.T) {
	all, deep := 0, 0
	some(t, 3, 3000, func(r *rand.Rand, m api.Mod) {
		if len(m.Of) > 5 {
			return
		}
		is := ledTo(m, len(m.Of))
		if got := fold.Reached(m); !slices.Equal(is, got) {
			t.Fatalf("P1302: Reached of %v: %v, not %v", m, got, is)
		}
		all++
		if !slices.Equal(is, ledTo(m, 1)) {
			deep++
		}
	})
	if all < 500 || deep < 20 {
		t.Error(all, deep)
	}
}

// P1302: what parts two states, and what does not. The states of a module ahead of these are alike, but as it is said.
func TestClasses(t *testing.T) {
	for i, c := range []struct {
		of    []int
		shape func(m *api.Mod)
		want  []int
	}{
		{[]int{0}, func(m *api.Mod) {}, []int{0}},
		{[]int{0, 0, 0}, func(m *api.Mod) {}, []int{0, -1, -1}},
		{[]int{0, 0, 0}, func(m *api.Mod) { m.In[0][0], m.Low[1][0] = 1, 2 }, []int{0, 0, 0}},
		{[]int{0, 0, 0}, func(m *api.Mod) { m.In[0][0], m.Low[1][0], m.Final[1] = 1, 2, true }, []int{0, 1, 2}},
		{[]int{0, 0, 0}, func(m *api.Mod) { m.In[0][0], m.Low[1][0], m.Final[2] = 1, 2, true }, []int{0, 1, 2}},
		// the modules are told apart, though they do alike
		{[]int{0, 1, 2, 3}, func(m *api.Mod) {}, []int{0, 1, 2, 3}},
		{[]int{3, 2, 1, 0, 3}, func(m *api.Mod) { m.In[0][0] = 4 }, []int{0, 1, 2, 3, 0}},
		// by a plain symbol, and by a closing one with nothing left
		{[]int{0, 0, 0}, func(m *api.Mod) { m.Final[2], m.Low[0][0], m.In[0][0] = true, 1, 2 }, []int{0, 1, 2}},
		{[]int{0, 0, 0}, func(m *api.Mod) { m.Final[2], m.In[0][0], m.Low[0][0] = true, 1, 2 }, []int{0, 1, 2}},
		{[]int{0, 0, 0}, func(m *api.Mod) { m.Final[2], m.In[0][0], m.In[1][0], m.Low[0][0], m.Low[1][0] = true, 2, 2, 1, 0 }, []int{0, 0, 1}},
		// by a closing one with a state pushed that is reached, and with one that is not
		{[]int{0, 1, 1, 0}, func(m *api.Mod) { m.In[1][0], m.Ret[2][0][0], m.Final[3] = 2, 3, true }, []int{0, 1, 2, 3}},
		{[]int{0, 1, 1, 0}, func(m *api.Mod) { m.In[1][0], m.Ret[2][0][0] = 2, 3 }, []int{0, 1, 1, 0}},
		{[]int{0, 1, 1, 0, 0}, func(m *api.Mod) { m.In[1][0], m.Ret[2][0][4], m.Final[3], m.Low[0][0] = 2, 3, true, 3 }, []int{0, 1, 1, 2, -1}},
		{[]int{0, 1, 1, 0, 0}, func(m *api.Mod) {
			m.In[1][0], m.Ret[2][0][4], m.Final[3], m.Low[0][0], m.Low[3][0] = 2, 3, true, 3, 4
		}, []int{0, 1, 2, 3, 4}},
		// pushed: where a state that is reached goes on, and where one that is not does
		{[]int{0, 0, 1, 1, 0}, func(m *api.Mod) { m.In[0][0], m.In[1][0], m.Ret[2][0][1], m.Final[4] = 1, 0, 4, true }, []int{0, 1, 2, -1, 3}},
		{[]int{0, 0, 1, 1, 0}, func(m *api.Mod) { m.In[0][0], m.In[1][0], m.Ret[3][0][1], m.Final[4] = 1, 0, 4, true }, []int{0, 0, 1, -1, -1}},
		{[]int{0, 0, 1, 1, 0}, func(m *api.Mod) {
			m.In[0][0], m.In[1][0], m.Ret[3][0][1], m.Final[4], m.Low[0][0], m.Low[1][0] = 1, 0, 4, true, 4, 4
		}, []int{0, 0, 1, -1, 2}},
		// pushed in a module behind the base
		{[]int{0, 1, 1, 2, 1}, func(m *api.Mod) { m.In[1][0], m.Ret[3][0][2], m.Final[4] = 2, 4, true }, []int{0, 1, 2, 3, 4}},
		{[]int{0, 1, 1, 2, 1}, func(m *api.Mod) { m.In[1][0], m.Ret[3][0][2] = 2, 4 }, []int{0, 1, 1, 2, 1}},
	} {
		m := blank(c.of, 1, 1)
		c.shape(&m)
		isMod(t, m)
		if got := fold.Classes(m); !slices.Equal(got, c.want) {
			t.Errorf("P1302: Classes %d: %v, not %v", i, got, c.want)
		}
	}
}

// P1302: any machines, held against the document's words.
func TestAny(t *testing.T) {
	less, none, great := 0, 0, 0
	some(t, 4, 6000, func(r *rand.Rand, m api.Mod) {
		if got, want := fold.Reached(m), plainReached(m); !slices.Equal(got, want) {
			t.Fatalf("P1302: Reached of %v: %v, not %v", m, got, want)
		}
		want := plainClasses(m)
		if got := fold.Classes(m); !slices.Equal(got, want) {
			t.Fatalf("P1302: Classes of %v: %v, not %v", m, got, want)
		}
		s := small(t, m)
		if want := plainSmall(m); !same(s, want) {
			t.Fatalf("P1302: Small of %v: %v, not %v", m, s, want)
		}
		isMod(t, s)
		if again := small(t, m); !same(s, again) || !slices.Equal(fold.Classes(m), want) {
			t.Fatalf("P3: Small of %v: %v, then %v", m, s, again)
		}
		if slices.Contains(want, -1) {
			none++
		}
		if n := slices.Max(want) + 1; n < len(m.Of) {
			less++
		} else if n > 8 {
			great++
		}
	})
	if less < 2000 || none < 2000 || great < 50 {
		t.Error(less, none, great)
	}
}

// P1303, T5: Small takes the same words; it is its own Small.
func TestSmall(t *testing.T) {
	yes, no := 0, 0
	some(t, 5, 3000, func(r *rand.Rand, m api.Mod) {
		s := small(t, m)
		if again := small(t, s); !same(s, again) {
			t.Fatalf("P1303: Small of %v: %v, not itself", s, again)
		}
		for p, n := range fold.Classes(s) {
			if n != p || !fold.Reached(s)[p] {
				t.Fatalf("P1303: Small of %v: %v, where %d is of class %d", m, s, p, n)
			}
		}
		for range 20 {
			w := anyWord(r, m, 15)
			got := fold.Takes(s, w)
			if got != plainTakes(m, w) {
				t.Fatalf("P1303: %v, %v, %v: %v", m, s, w, got)
			}
			if got {
				yes++
			} else {
				no++
			}
		}
	})
	if yes < 10000 || no < 10000 {
		t.Error(yes, no)
	}
}

// P1303: all words of up to six symbols.
func TestShortWords(t *testing.T) {
	less := 0
	some(t, 6, 500, func(r *rand.Rand, m api.Mod) {
		if len(symbols(m)) > 4 {
			return
		}
		s := small(t, m)
		if len(s.Of) < len(m.Of) && len(s.Of) > 2 {
			less++
		}
		eachWord(m, 6, func(w []api.Pair) bool {
			if fold.Takes(s, w) != plainTakes(m, w) {
				t.Fatalf("P1303: %v, %v, %v", m, s, w)
			}
			return false
		})
	})
	if less < 80 {
		t.Error(less)
	}
}

// T5: states of a small machine are told apart by a word, some states pushed, if they are not of the base.
func TestToldApart(t *testing.T) {
	two := 0
	some(t, 7, 1500, func(r *rand.Rand, m api.Mod) {
		s := small(t, m)
		if len(s.Of) > 5 || len(symbols(s)) > 4 {
			return
		}
		for p := range s.Of {
			for q := range p {
				if s.Of[p] == s.Of[q] {
					two++
					toldApart(t, s, p, q)
				}
			}
		}
	})
	if two < 300 {
		t.Error(two)
	}
}

// toldApart fails unless a word of up to seven symbols tells p and q apart.
func toldApart(t *testing.T, s api.Mod, p, q int) {
	t.Helper()
	lefts := [][]int{nil}
	if s.Of[p] > 0 {
		lefts = stacks(s)
	}
	found := false
	eachWord(s, 7, func(w []api.Pair) bool {
		for _, left := range lefts {
			a, _ := plainRead(s, p, left, w)
			b, _ := plainRead(s, q, left, w)
			found = found || s.Final[a] != s.Final[b]
		}
		return found
	})
	if !found {
		t.Fatalf("T5: %v: no word tells %d and %d apart", s, p, q)
	}
}

// T5: a machine that is blown up is made as small as it was, and like it.
func TestBlown(t *testing.T) {
	r := rand.New(rand.NewSource(8))
	for range 1500 {
		m := small(t, anyMod(r, 1+r.Intn(4), 1+r.Intn(4), r.Intn(3), 1+r.Intn(2)))
		b, as := blown(r, m, 60-len(m.Of))
		isMod(t, b)
		s, class := small(t, b), fold.Classes(b)
		if len(s.Of) != len(m.Of) {
			t.Fatalf("T5: %v, blown up to %v, is made %v", m, b, s)
		}
		// Whatever does as one state does is of one class.
		of := map[int]int{}
		for p, n := range class {
			if was, is := of[n]; n >= 0 && is && was != as[p] {
				t.Fatalf("T5: %v: %v, %v", b, class, as)
			}
			of[n] = as[p]
		}
	}
}

// P1302: numbers of classes rise with their least states.
func TestNumbers(t *testing.T) {
	m := blank([]int{1, 0, 0, 1, 0, 0}, 2, 1)
	m.Entry = []int{5, 3}
	m.In[5], m.In[4], m.In[3], m.In[2] = []int{4, 2}, []int{4, 2}, []int{3, 3}, []int{5, 4}
	m.Final[2] = true
	isMod(t, m)
	if got, want := fold.Classes(m), []int{-1, 0, 1, 2, 3, 3}; !slices.Equal(got, want) {
		t.Errorf("P1302: Classes %v, not %v", got, want)
	}
}

// P1302: whole answers.
func TestWholeAnswers(t *testing.T) {
	one := blank([]int{0}, 0, 0)
	if s := small(t, one); !same(s, one) {
		t.Errorf("the document's example: %v", s)
	}
	for i, c := range []struct {
		m    api.Mod
		want string
	}{
		{api.Mod{}, "{0 0 [] [] [] [] [] []} module"},
		{sample(), "{2 2 [0 1 0 2] [0 1 3] [false false true false] [[0 2] [1 1] [0 0] [3 3]] [[0 0] [] [0 2] []] [[] [[0 1 2 3] [0 1 2 3]] [] [[0 1 2 3] [2 1 0 3]]]} ok"},
		{alone(60), "{1 0 [0] [0] [false] [[0]] [[]] [[]]} ok"},
		{blank([]int{1, 1, 0, 0, 2}, 1, 1), "{1 1 [1 0 2] [1 0 2] [false false false] [[0] [1] [2]] [[] [1] []] [[[0 1 2]] [] [[0 1 2]]]} ok"},
	} {
		s, e := fold.Small(c.m)
		if got := fmt.Sprint(s, " ", e); got != c.want {
			t.Errorf("P1302: Small %d: %s, not %s", i, got, c.want)
		}
	}
}
