package seek_test

import (
	"fmt"
	"math"
	"math/rand"
	"slices"
	"testing"

	"canopy/api"
	"canopy/mix"
	"canopy/runs"
	"canopy/seek"
	"canopy/word"
)

// P1201: each kind of rule, alone and together.
func TestWays(t *testing.T) {
	f := far
	nest := func(push, top int) api.Auto {
		return api.Auto{N: 4, G: 2, Opens: []api.Open{{From: 0, Sym: openA, To: 1, Push: push}}, Closes: []api.Close{{From: 2, Sym: shutB, Top: top, To: 3}}, Inners: []api.Inner{{From: 1, Sym: x, To: 2}}}
	}
	for i, c := range []struct {
		a    api.Auto
		want [][]int
	}{
		{api.Auto{}, nil},
		{api.Auto{G: 10000}, nil},
		{api.Auto{N: 1}, [][]int{{0}}},
		{api.Auto{N: 2}, [][]int{{0, f}, {f, 0}}},
		{api.Auto{N: 1, G: 1, Opens: []api.Open{{Sym: openA, Push: 1}}, Closes: []api.Close{{Sym: shutA}}, Inners: []api.Inner{{Sym: x}}}, [][]int{{0}}},
		{line(3), [][]int{{0, 1, 2}, {f, 0, 1}, {f, f, 0}}},
		// what opens or closes alone is not whole
		{api.Auto{N: 2, G: 1, Opens: []api.Open{{From: 0, Sym: openA, To: 1, Push: 1}}}, [][]int{{0, f}, {f, 0}}},
		{api.Auto{N: 2, G: 1, Closes: []api.Close{{From: 0, Sym: shutA, Top: 0, To: 1}, {From: 1, Sym: shutA, Top: 1, To: 0}}}, [][]int{{0, f}, {f, 0}}},
		{api.Auto{N: 3, G: 1, Opens: []api.Open{{From: 1, Sym: openA, To: 2, Push: 1}}, Closes: []api.Close{{From: 0, Sym: shutA, Top: 1, To: 1}, {From: 0, Sym: shutA, Top: 0, To: 1}}}, [][]int{{0, f, f}, {f, 0, f}, {f, f, 0}}},
		// nothing between, and something; the mark is the one that was pushed
		{api.Auto{N: 3, G: 1, Opens: []api.Open{{From: 0, Sym: openA, To: 1, Push: 1}}, Closes: []api.Close{{From: 1, Sym: shutA, Top: 1, To: 2}}}, [][]int{{0, f, 2}, {f, 0, f}, {f, f, 0}}},
		{nest(1, 1), [][]int{{0, f, f, 3}, {f, 0, 1, f}, {f, f, 0, f}, {f, f, f, 0}}},
		{nest(2, 2), [][]int{{0, f, f, 3}, {f, 0, 1, f}, {f, f, 0, f}, {f, f, f, 0}}},
		{nest(1, 2), [][]int{{0, f, f, f}, {f, 0, 1, f}, {f, f, 0, f}, {f, f, f, 0}}},
		{nest(1, 0), [][]int{{0, f, f, f}, {f, 0, 1, f}, {f, f, 0, f}, {f, f, f, 0}}},
		// a nest in itself: 0 opens to 0, 1 closes to 1, so from 0 to 2 it is one nest or two
		{api.Auto{N: 3, G: 2, Opens: []api.Open{{From: 0, Sym: openA, To: 0, Push: 1}, {From: 0, Sym: openA, To: 0, Push: 2}}, Closes: []api.Close{{From: 1, Sym: shutA, Top: 1, To: 1}, {From: 1, Sym: shutA, Top: 2, To: 2}}, Inners: []api.Inner{{From: 0, Sym: x, To: 1}}}, [][]int{{0, 1, 3}, {f, 0, f}, {f, f, 0}}},
		// a nest is shorter than a row of plain symbols, or longer
		{api.Auto{N: 4, G: 1, Opens: []api.Open{{From: 0, Sym: openA, To: 1, Push: 1}}, Closes: []api.Close{{From: 1, Sym: shutA, Top: 1, To: 3}}, Inners: []api.Inner{{From: 0, Sym: x, To: 1}, {From: 1, Sym: x, To: 2}, {From: 2, Sym: x, To: 3}}}, [][]int{{0, 1, 2, 2}, {f, 0, 1, 2}, {f, f, 0, 1}, {f, f, f, 0}}},
		{api.Auto{N: 2, G: 1, Opens: []api.Open{{From: 0, Sym: openA, To: 0, Push: 1}}, Closes: []api.Close{{From: 0, Sym: shutA, Top: 1, To: 1}}, Inners: []api.Inner{{From: 0, Sym: x, To: 1}}}, [][]int{{0, 1}, {f, 0}}},
		// a way through a nest that a way through a nest makes
		{api.Auto{N: 4, G: 2, Opens: []api.Open{{From: 0, Sym: openA, To: 0, Push: 1}, {From: 2, Sym: openB, To: 0, Push: 2}}, Closes: []api.Close{{From: 0, Sym: shutA, Top: 1, To: 2}, {From: 2, Sym: shutA, Top: 2, To: 3}}}, [][]int{{0, f, 2, 6}, {f, 0, f, f}, {f, f, 0, 4}, {f, f, f, 0}}},
	} {
		machine(t, letters(), c.a)
		if got := seek.Ways(letters(), c.a); fmt.Sprint(got) != fmt.Sprint(c.want) {
			t.Errorf("P1201: Ways %d: %v, not %v", i, got, c.want)
		}
	}
}

// P1201: what opens may stay, and what closes where nothing is left, too; but not the one behind the other.
func TestWord(t *testing.T) {
	opens := []api.Open{{From: 0, Sym: openA, To: 1, Push: 1}, {From: 2, Sym: openB, To: 3, Push: 2}}
	for i, c := range []struct {
		a    api.Auto
		want []int
	}{
		{api.Auto{N: 1, Init: []int{0}, Final: []int{0}}, nil},
		{api.Auto{N: 3, Init: []int{0, 2, 2}, Final: []int{1, 2}}, nil},
		{line(1), nil},
		{line(4), []int{x, x, x}},
		{api.Auto{N: 2, Init: []int{0}, Final: []int{1}, Inners: []api.Inner{{From: 0, Sym: y, To: 1}}}, []int{y}},
		{api.Auto{N: 2, G: 1, Init: []int{0}, Final: []int{1}, Opens: opens[:1]}, []int{openA}},
		{api.Auto{N: 2, G: 1, Init: []int{0}, Final: []int{1}, Closes: []api.Close{{From: 0, Sym: shutB, Top: 0, To: 1}}}, []int{shutB}},
		{api.Auto{N: 3, G: 1, Init: []int{0}, Final: []int{2}, Opens: opens[:1], Closes: []api.Close{{From: 1, Sym: shutB, Top: 1, To: 2}}}, []int{openA, shutB}},
		{api.Auto{N: 4, G: 2, Init: []int{0}, Final: []int{3}, Opens: opens, Inners: []api.Inner{{From: 1, Sym: y, To: 2}}}, []int{openA, y, openB}},
		// a whole word behind what closed, and one behind what opened
		{api.Auto{N: 7, G: 2, Init: []int{4}, Final: []int{6}, Opens: opens, Closes: []api.Close{{From: 4, Sym: shutB, Top: 0, To: 5}, {From: 5, Sym: shutA, Top: 0, To: 0}, {From: 1, Sym: shutA, Top: 1, To: 2}, {From: 3, Sym: shutA, Top: 2, To: 6}}, Inners: []api.Inner{{From: 3, Sym: x, To: 0}}}, []int{shutB, shutA, openA, shutA, openB, shutA}},
		{api.Auto{N: 6, G: 2, Init: []int{4}, Final: []int{2}, Opens: []api.Open{{From: 4, Sym: openB, To: 0, Push: 2}, opens[0]}, Closes: []api.Close{{From: 1, Sym: shutA, Top: 1, To: 5}}, Inners: []api.Inner{{From: 5, Sym: x, To: 2}}}, []int{openB, openA, shutA, x}},
		// from whichever of Init it is shortest, to whichever of Final
		{api.Auto{N: 5, Init: []int{0, 4, 2}, Final: []int{3}, Inners: line(4).Inners}, []int{x}},
		{api.Auto{N: 5, Init: []int{1}, Final: []int{4, 3, 0, 2}, Inners: line(5).Inners}, []int{x}},
	} {
		isShortest(t, fmt.Sprint(i), letters(), c.a, len(c.want))
		if w, _ := seek.Word(letters(), c.a); !slices.Equal(w, c.want) {
			t.Errorf("P1201: Word %d: %v, not %v", i, w, c.want)
		}
	}
}

// P1201: there is no word.
func TestNoWord(t *testing.T) {
	open, shut := []api.Open{{From: 0, Sym: openA, To: 1, Push: 1}}, func(top int) []api.Close {
		return []api.Close{{From: 1, Sym: shutA, Top: top, To: 2}}
	}
	for i, a := range []api.Auto{
		{},
		{N: 2, Final: []int{0, 1}}, // the document's example: no Init
		{N: 2, Init: []int{0, 1}},
		{N: 2, Init: []int{0}, Final: []int{1}},
		{N: 2, Init: []int{1}, Final: []int{0}, Inners: line(2).Inners},
		{N: 2, G: 1, Init: []int{0}, Final: []int{1}, Closes: []api.Close{{From: 0, Sym: shutA, Top: 1, To: 1}}},
		{N: 3, G: 2, Init: []int{0}, Final: []int{2}, Opens: open, Closes: shut(0)},
		{N: 3, G: 2, Init: []int{0}, Final: []int{2}, Opens: open, Closes: shut(2)},
		// behind what opened a whole word leads on, but nothing is at the bottom any more
		{N: 4, G: 2, Init: []int{0}, Final: []int{3}, Opens: open, Closes: append(shut(1), api.Close{From: 1, Sym: shutB, Top: 0, To: 3}), Inners: []api.Inner{{From: 1, Sym: x, To: 1}}},
	} {
		machine(t, letters(), a)
		isNone(t, fmt.Sprint(i), letters(), a)
	}
}

// P1201: any machines against rules that are gone through till nothing gets shorter.
func TestAnyMachines(t *testing.T) {
	longs, none := map[int]int{}, 0
	some(1, 30000, 12, func(r *rand.Rand, l []api.Sym, a api.Auto) {
		ways := plainWays(a)
		if got := seek.Ways(l, a); fmt.Sprint(got) != fmt.Sprint(ways) {
			t.Fatalf("P1201: Ways of %v: %v, not %v", a, got, ways)
		}
		n := plainShortest(a, ways)
		if n == far {
			none++
			isNone(t, fmt.Sprint(a), l, a)
			return
		}
		longs[min(n, 6)]++
		isShortest(t, fmt.Sprint(a), l, a, n)
	})
	if none < 5000 || longs[0] < 3000 || longs[1] < 1000 || longs[3] < 300 || longs[6] < 60 {
		t.Error(none, longs)
	}
}

// P1201: any machines against all words of up to five symbols.
func TestShortWords(t *testing.T) {
	const most = 5
	found, ways := 0, 0
	some(2, 60, 5, func(r *rand.Rand, l []api.Sym, a api.Auto) {
		l = letters()[:5]
		a = anyMachine(r, l, 5)
		least, want := most+1, rows(a.N, most+1)
		eachWord(l, most, func(w []int) {
			if runs.Takes(l, a, w) {
				least = min(least, len(w))
			}
			if !word.Whole(l, w) {
				return
			}
			for p := range a.N {
				for _, at := range led(l, a, p, w) {
					want[p][at.State] = min(want[p][at.State], len(w))
				}
			}
		})
		for p, row := range seek.Ways(l, a) {
			for q, n := range row {
				if min(n, most+1) != want[p][q] {
					t.Fatalf("P1201: Ways of %v: %d to %d: %d, not %d", a, p, q, n, want[p][q])
				}
				if n <= most && n > 0 {
					ways++
				}
			}
		}
		if least <= most {
			found++
			isShortest(t, fmt.Sprint(a), l, a, least)
		} else if n, is := seek.Shortest(l, a); is && n <= most {
			t.Fatalf("P1201: Shortest of %v: %d", a, n)
		}
	})
	if found < 20 || ways < 50 {
		t.Error(found, ways)
	}
}

// P1201: machines of many states, marks, rules.
func TestManyStates(t *testing.T) {
	l := letters()
	r := rand.New(rand.NewSource(3))
	for _, c := range []struct{ n, g, rules int }{{200, 1, 300}, {200, 20, 1000}, {200, 10000, 3000}, {60, 3, 150}, {60, 5, 300}, {100, 2, 200}} {
		a := api.Auto{N: c.n, G: c.g, Init: []int{0}, Final: []int{c.n - 1}}
		for range c.rules {
			a.Inners = append(a.Inners, api.Inner{From: r.Intn(c.n), Sym: x, To: r.Intn(c.n)})
			a.Opens = append(a.Opens, api.Open{From: r.Intn(c.n), Sym: openB, To: r.Intn(c.n), Push: 1 + r.Intn(c.g)})
			a.Closes = append(a.Closes, api.Close{From: r.Intn(c.n), Sym: shutB, Top: 1 + r.Intn(c.g), To: r.Intn(c.n)})
		}
		a.Inners = a.Inners[:c.n/2]
		machine(t, l, a)
		got, want := seek.Ways(l, a), plainWays(a)
		if fmt.Sprint(got) != fmt.Sprint(want) {
			t.Errorf("P1201: Ways of %v", c)
		}
		for range 20 {
			p, q := r.Intn(c.n), r.Intn(c.n)
			a.Init, a.Final = []int{p}, []int{q}
			if n := plainShortest(a, want); n == far {
				isNone(t, fmt.Sprint(c), l, a)
			} else {
				isShortest(t, fmt.Sprint(c), l, a, n)
			}
		}
	}
}

// P1201: as many states as there may be, from each to each.
func TestGreatest(t *testing.T) {
	l := letters()
	ring := line(200)
	ring.Inners = append(ring.Inners, api.Inner{From: 199, Sym: y, To: 0})
	for p, row := range seek.Ways(l, ring) {
		for q, n := range row {
			if n != (q-p+200)%200 {
				t.Fatalf("P1201: Ways around: %d to %d: %d", p, q, n)
			}
		}
	}
	isShortest(t, "a line", l, line(200), 199)
	// Each of 10000 marks is pushed, but only the last one is taken back.
	a := api.Auto{N: 200, G: 10000, Init: []int{199}, Final: []int{0}}
	for m := 1; m <= 10000; m++ {
		a.Opens = append(a.Opens, api.Open{From: 199, Sym: openA, To: 100, Push: m})
		for q := 101; q < 110; q++ {
			a.Closes = append(a.Closes, api.Close{From: q, Sym: shutA, Top: m, To: 0})
		}
	}
	isNone(t, "10000 marks", l, a)
	a.Closes[0] = api.Close{From: 100, Sym: shutB, Top: 10000, To: 0}
	isShortest(t, "10000 marks", l, a, 2)
	if ways := seek.Ways(l, a); ways[199][0] != 2 || ways[199][100] != far || ways[100][0] != far {
		t.Errorf("P1201: Ways with 10000 marks: %d", ways[199][0])
	}
	// 50000 rules that open and as many that close, each of them fits each.
	dense := api.Auto{N: 200, G: 1, Init: []int{0}, Final: []int{199}}
	for i := range 50000 {
		p, q := i%200, i/200%200
		dense.Opens = append(dense.Opens, api.Open{From: p, Sym: openA, To: q, Push: 1})
		dense.Closes = append(dense.Closes, api.Close{From: p, Sym: shutA, Top: 1, To: q})
	}
	machine(t, l, dense)
	for p, row := range seek.Ways(l, dense) {
		for q, n := range row {
			if p != q && n != 2 {
				t.Fatalf("P1201: Ways of 100000 rules: %d to %d: %d", p, q, n)
			}
		}
	}
	isShortest(t, "100000 rules", l, dense, 1)
}

// P1201: lengths of all sizes below Far.
func TestLongWays(t *testing.T) {
	l := letters()
	for _, n := range []int{0, 1, 5, 6, 7, 8, 11, 12, 13, 100, 9999, 1 << 31, 1<<31 + 1, 1 << 32, 1<<39 - 1, 1 << 39, 1<<40 - 2, 1<<40 - 1} {
		a := grown(n)
		machine(t, l, a)
		if long, is := seek.Shortest(l, a); long != n || !is {
			t.Errorf("P1201: Shortest %d, %v, not %d", long, is, n)
		}
		if long := seek.Ways(l, a)[a.Init[0]][a.Final[0]]; long != n {
			t.Errorf("P1201: Ways %d, not %d", long, n)
		}
	}
	for n := range 38 {
		a := doubled(n)
		if long, is := seek.Shortest(l, a); long != 5<<n-4 || !is {
			t.Errorf("P1201: Shortest %d, %v, not %d", long, is, 5<<n-4)
		}
	}
}

// P1201, P1203: words as long as they may be told.
func TestLongWords(t *testing.T) {
	l := letters()
	for _, n := range []int{50, 4000, 9998, 9999, 10000} {
		isShortest(t, "a long word", l, grown(n), n)
	}
	// a goes around by 67 as it opens, by 73 as it closes; where nothing is left it must be at 6 of these.
	a := api.Auto{N: 141, G: 1, Init: []int{0}, Final: []int{140}, Inners: []api.Inner{{From: 0, Sym: y, To: 67}}, Closes: []api.Close{{From: 67 + 6, Sym: shutB, Top: 0, To: 140}}}
	for q := range 67 {
		a.Opens = append(a.Opens, api.Open{From: q, Sym: openA, To: (q + 1) % 67, Push: 1})
	}
	for q := range 73 {
		a.Closes = append(a.Closes, api.Close{From: 67 + q, Sym: shutA, Top: 1, To: 67 + (q+1)%73})
	}
	deep := 0
	for deep%67 != 0 || deep%73 != 6 {
		deep++
	}
	isShortest(t, "a deep word", l, a, 2*deep+2)
	if w, _ := seek.Word(l, a); word.Deep(l, w) != deep || deep != 4824 {
		t.Errorf("P1201: Word is %d deep, not %d", word.Deep(l, w), deep)
	}
}

// P1, P8: words that are too long to be told, or to be counted.
func TestTooLong(t *testing.T) {
	l := letters()
	none := api.Auto{}
	for i, a := range []api.Auto{grown(10001), grown(1<<40 - 1), grown(1 << 40), grown(1<<40 + 1), doubled(38), doubled(60), doubled(61), doubled(66)} {
		machine(t, l, a)
		seek.Ways(l, a)
		if _, is := seek.Shortest(l, a); !is {
			t.Errorf("P8: Shortest %d: none", i)
		}
		if w, is := seek.Word(l, a); is && !runs.Takes(l, a, w) || !is && len(w) > 0 {
			t.Errorf("P8: Word %d: %d, %v", i, len(w), is)
		}
		for _, c := range comparisons() {
			for _, two := range [][2]api.Auto{{a, none}, {none, a}} {
				w, is, e := c.do(l, two[0], two[1], 200)
				if want := c.name == "Within" && two[0].N == 0; e == api.OK && (is != want || !is && !runs.Takes(l, a, w)) || e != api.OK && (is || len(w) > 0) {
					t.Errorf("P8: %s %d: %d, %v (%v)", c.name, i, len(w), is, e)
				}
			}
		}
	}
}

// P8: README.md's bound of words that are told. That there is a longer one is not denied where an error can tell so.
func TestTold(t *testing.T) {
	l := letters()
	a, b := grown(1<<20), grown(1<<20+1)
	isShortest(t, "2^20", l, a, 1<<20)
	if n, is := seek.Shortest(l, b); n != 1<<20+1 || !is {
		t.Errorf("P1201: Shortest %d, %v", n, is)
	}
	if w, is := seek.Word(l, b); len(w) > 0 || is {
		t.Errorf("P8: Word %d, %v", len(w), is)
	}
	for _, c := range comparisons() {
		if w, is, e := c.do(l, a, api.Auto{}, 200); len(w) != 1<<20 || is || e != api.OK || !runs.Takes(l, a, w) {
			t.Errorf("P1202: %s: %d, %v (%v)", c.name, len(w), is, e)
		}
		w, is, e := c.do(l, b, api.Auto{}, 200)
		isError(t, c.name, w, is, e, api.Budget)
	}
}

// P1202: tables.
func TestCompare(t *testing.T) {
	for _, c := range []struct {
		a, b         string
		within, same string
	}{
		{"0", "0", "yes", "yes"},
		{"0", "1", "yes", "[]"},
		{"1", "0", "[]", "[]"},
		{"1", "x*", "yes", "[0]"},
		{"x*", "1", "[0]", "[0]"},
		{"x*", "x* x x | 1 | x", "yes", "yes"},
		{"x x*", "x x x*", "[0]", "[0]"},
		{"(x | y)*", "(x* y*)*", "yes", "yes"},
		{"x x | x x x", "x x", "[0 0 0]", "[0 0 0]"},
		{"x x", "x x | x x x", "yes", "[0 0 0]"},
		{"x x x", "y y", "[0 0 0]", "[3 3]"},
		{"y y", "x x x", "[3 3]", "[3 3]"},
		{"x x x | y", "x y | x y y", "[3]", "[3]"},
		{"x y | x y y", "x x x | y", "[0 3]", "[3]"},
		{"<a[ x ]a>", "<a> x </a>", "yes", "yes"},
		{"<a[ x ]a>", "x | <a> x </a>", "yes", "[0]"},
		{"<a[ x ]a> | <b[ y ]b>", "<a[ x ]a>", "[4 3 5]", "[4 3 5]"},
		{"(<a[ x* ]a>)*", "(<a[ x ]a> | <a[ 1 ]a> | <a[ x x x* ]a>)*", "yes", "yes"},
		{"(<a[ (<a[ x ]a>)* ]a>)*", "(<a[ 1 ]a> | <a[ <a[ x ]a> ]a>)*", "[2 2 0 1 2 0 1 1]", "[2 2 0 1 2 0 1 1]"},
		{"</a> x*", "</a> x x*", "[1]", "[1]"},
		{"<a> <a> x", "<a> <a[ 1 ]a>", "[2 2 0]", ""},
	} {
		a, b := reader(t, c.a), reader(t, c.b)
		for i, want := range []string{c.within, c.same} {
			f := comparisons()[i]
			w, is, e := f.do(letters(), a, b, 200)
			got := fmt.Sprint(w)
			if is {
				got = "yes"
			}
			if e != api.OK || want != "" && got != want || is && len(w) > 0 {
				t.Errorf("P1202: %s of %s, %s: %s (%v), not %s", f.name, c.a, c.b, got, e, want)
			}
		}
	}
}

// P1202, P1203: any machines against all words of up to five symbols, and the words of mix.Less.
func TestAnyTwo(t *testing.T) {
	const most = 5
	told := map[string]int{}
	some(4, 200, 3, func(r *rand.Rand, l []api.Sym, a api.Auto) {
		l = letters()[:1+r.Intn(5)]
		a, b := anyMachine(r, l, 4), anyMachine(r, l, 3)
		least := []int{most + 1, most + 1}
		eachWord(l, most, func(w []int) {
			p, q := runs.Takes(l, a, w), runs.Takes(l, b, w)
			for i, c := range comparisons() {
				if c.tell(p, q) {
					least[i] = min(least[i], len(w))
				}
			}
		})
		for i, c := range comparisons() {
			w, is, e := c.do(l, a, b, 200)
			if e != api.OK {
				told["error"]++
				isError(t, c.name, w, is, e, api.Budget)
				continue
			}
			if is {
				told["yes"]++
				if len(w) > 0 || least[i] <= most {
					t.Fatalf("P1202: %s of %v, %v: %v", c.name, a, b, is)
				}
				continue
			}
			told["no"]++
			if len(w) != least[i] && min(len(w), least[i]) <= most || !c.tell(runs.Takes(l, a, w), runs.Takes(l, b, w)) {
				t.Fatalf("P1202: %s of %v, %v: %v, not %d", c.name, a, b, w, least[i])
			}
		}
	})
	if told["yes"] < 80 || told["no"] < 120 {
		t.Error(told)
	}
}

// P1202, P1203: any machines against the shortest words of mix.Less.
func TestLess(t *testing.T) {
	longs := map[int]int{}
	for _, most := range []int{3, 10, 60, 200} {
		some(int64(10+most), 1000, 6, func(r *rand.Rand, l []api.Sym, a api.Auto) {
			b := anyMachine(r, l, 3)
			left, e := mix.Less(l, a, b, most)
			right, f := mix.Less(l, b, a, most)
			w, is, err := seek.Within(l, a, b, most)
			if e != api.OK {
				isError(t, "Within", w, is, err, e)
			} else if n := plainShortest(left, plainWays(left)); err != api.OK || is != (n == far) || !is && len(w) != n || is && len(w) > 0 || !is && !runs.Takes(l, left, w) {
				t.Fatalf("P1202: Within of %v, %v: %v, %v (%v), not %d", a, b, w, is, err, n)
			}
			if e == api.OK {
				e = f
			}
			w, is, err = seek.Same(l, a, b, most)
			if e != api.OK {
				isError(t, "Same", w, is, err, e)
				return
			}
			n := min(plainShortest(left, plainWays(left)), plainShortest(right, plainWays(right)))
			if err != api.OK || is != (n == far) || !is && len(w) != n || is && len(w) > 0 || !is && runs.Takes(l, left, w) == runs.Takes(l, right, w) {
				t.Fatalf("P1202: Same of %v, %v: %v, %v (%v), not %d", a, b, w, is, err, n)
			}
			longs[n]++
		})
	}
	if longs[far] < 800 || longs[0] < 800 || longs[1] < 300 || longs[2] < 60 {
		t.Error(longs)
	}
}

// P1202: a word as long as may be told.
func TestLongDifference(t *testing.T) {
	l := letters()
	a := grown(10000)
	b := a
	b.Final = nil
	for _, c := range comparisons() {
		w, is, e := c.do(l, a, api.Auto{}, 200)
		if len(w) != 10000 || is || e != api.OK || !runs.Takes(l, a, w) {
			t.Errorf("P1202: %s: %d, %v (%v)", c.name, len(w), is, e)
		}
		if w, is, e := c.do(l, b, api.Auto{}, 200); len(w) > 0 || !is || e != api.OK {
			t.Errorf("P1202: %s: %d, %v (%v)", c.name, len(w), is, e)
		}
	}
	if w, is, e := seek.Same(l, api.Auto{}, a, 200); len(w) != 10000 || is || e != api.OK || !runs.Takes(l, a, w) {
		t.Errorf("P1202: Same: %d, %v (%v)", len(w), is, e)
	}
	// Of a word of more than a million symbols and one that is shorter, this one is told.
	long, short := doubled(18), line(2)
	for _, two := range [][2]api.Auto{{long, short}, {short, long}} {
		if w, is, e := seek.Same(l, two[0], two[1], 200); e != api.OK || is || !slices.Equal(w, []int{x}) {
			t.Errorf("P1202: Same: %d, %v (%v)", len(w), is, e)
		}
	}
}

// P1202: mix.Less's errors, at each edge of most; of Same, those of either side.
func TestMost(t *testing.T) {
	l := letters()
	three := line(3) // four rows, with the one of nothing
	one := api.Auto{N: 1, Init: []int{0}, Final: []int{0}, Inners: []api.Inner{{From: 0, Sym: x, To: 0}}}
	for _, c := range []struct {
		call int
		a, b api.Auto
		most int
		want api.Errno
	}{
		{0, three, one, 6, api.OK}, // one has two rows
		{0, three, one, 5, api.Budget},
		{0, one, three, 4, api.OK},
		{0, one, three, 3, api.Budget},
		{1, one, three, 6, api.OK},
		{1, one, three, 5, api.Budget},
		{1, three, one, 6, api.OK},
		{1, three, one, 5, api.Budget},
		{1, api.Auto{}, three, 4, api.OK},
		{1, api.Auto{}, three, 3, api.Budget},
		{1, three, api.Auto{}, 4, api.OK},
		{1, three, api.Auto{}, 3, api.Budget},
		{0, api.Auto{}, api.Auto{}, 1, api.OK},
		{0, api.Auto{}, api.Auto{}, 0, api.Budget},
		{1, api.Auto{}, api.Auto{}, 1, api.OK},
		{1, api.Auto{}, api.Auto{}, 0, api.Budget},
		{0, one, one, math.MinInt, api.Budget},
		{1, one, one, math.MinInt, api.Budget},
		{0, one, one, math.MaxInt, api.OK},
		{1, one, one, math.MaxInt, api.OK},
		{0, line(100), one, math.MaxInt, api.OK},
		{0, line(101), one, math.MaxInt, api.Budget},
		{1, line(100), one, math.MaxInt, api.OK},
		{1, one, line(101), math.MaxInt, api.Budget},
		{1, line(101), one, math.MaxInt, api.Budget},
	} {
		f := comparisons()[c.call]
		w, is, e := f.do(l, c.a, c.b, c.most)
		if c.want != api.OK {
			isError(t, fmt.Sprint(f.name, " most ", c.most), w, is, e, c.want)
		} else if e != api.OK {
			t.Errorf("P1202: %s: %v at most %d", f.name, e, c.most)
		}
	}
}

// wrong are no machines over letters.
func wrong() []api.Auto {
	return []api.Auto{
		{N: -1},
		{N: 201},
		{G: -1},
		{G: 10001},
		{N: math.MinInt, G: math.MinInt},
		{N: math.MaxInt, G: math.MaxInt},
		{N: 1, Init: []int{0, 1}, Final: []int{0}},
		{N: 1, Init: []int{0}, Final: []int{0, -1}},
		{N: 1, G: 1, Opens: []api.Open{{From: 0, Sym: openA, To: 0, Push: 0}}, Closes: []api.Close{{From: 0, Sym: shutA, Top: 0, To: 0}}},
		{N: 1, G: 1, Opens: []api.Open{{From: 0, Sym: x, To: 0, Push: 1}}},
		{N: 1, G: 1, Opens: []api.Open{{From: -1, Sym: openA, To: 0, Push: 1}}},
		{N: 1, G: 1, Opens: []api.Open{{From: 0, Sym: openA, To: 1, Push: 1}}},
		{N: 1, G: 1, Closes: []api.Close{{From: 0, Sym: shutA, Top: 2, To: 0}}},
		{N: 1, G: 1, Closes: []api.Close{{From: 0, Sym: shutA, Top: math.MinInt, To: 0}}},
		{N: 1, G: 1, Closes: []api.Close{{From: 5, Sym: shutA, Top: 0, To: 7}}},
		{N: 1, Inners: []api.Inner{{From: 0, Sym: shutB, To: 0}}},
		{N: 1, Inners: []api.Inner{{From: math.MaxInt, Sym: x, To: 0}}},
		{N: 1, Inners: []api.Inner{{From: 0, Sym: 6, To: math.MinInt}}},
		{N: 1, Inners: make([]api.Inner, 100001)},
	}
}

// P1202: what is no machine is told ahead of Budget. P8: the other calls answer, whatever they are given.
func TestNoMachine(t *testing.T) {
	l, good := letters(), line(200)
	for i, bad := range wrong() {
		for _, most := range []int{math.MinInt, 0, 1, 200, math.MaxInt} {
			for _, c := range comparisons() {
				for _, two := range [][2]api.Auto{{bad, good}, {good, bad}, {bad, bad}} {
					w, is, e := c.do(l, two[0], two[1], most)
					isError(t, c.name, w, is, e, api.BadAuto)
				}
			}
		}
		if ways := seek.Ways(l, bad); len(ways) > 200 {
			t.Errorf("P8: Ways %d: %d", i, len(ways))
		}
		isNone(t, fmt.Sprint(i), l, bad)
	}
}

// P1, P2, P3, P8: symbols that may not be.
func TestWrongSymbols(t *testing.T) {
	many := func(n int, kinds ...int) []api.Sym {
		var l []api.Sym
		for i := range n {
			l = append(l, api.Sym{Name: "a", Kind: kinds[i%len(kinds)]})
		}
		return l
	}
	for i, l := range [][]api.Sym{nil, {}, {{}}, {{Kind: -1}}, {{Kind: 4}, {Name: "a", Kind: 3}}, many(2, 3), many(21, 3), many(500, 1, 2), many(1<<17, 1, 2, 3), {{Name: "a", Kind: math.MaxInt}, {Name: "", Kind: api.Opens}, {Name: "A", Kind: api.Closes}}} {
		for _, n := range []int{0, 1, 14, 200} {
			a := api.Auto{N: n, G: 100}
			for q := range n {
				a.Init, a.Final = append(a.Init, q), append(a.Final, (q+1)%n)
				for sym := range min(len(l), 100) {
					switch l[sym].Kind {
					case api.Opens:
						a.Opens = append(a.Opens, api.Open{From: q, Sym: sym, To: (q + 1) % n, Push: 1 + q%100})
					case api.Closes:
						a.Closes = append(a.Closes, api.Close{From: q, Sym: sym, Top: q % 100, To: (q + 1) % n})
					case api.Plain:
						a.Inners = append(a.Inners, api.Inner{From: q, Sym: sym, To: (q + 1) % n})
					}
				}
			}
			syms, was := slices.Clone(l), roomy(a)
			all := func() string { return fmt.Sprint(answers(l, a, a, 200)...) }
			if all() != all() {
				t.Errorf("P3: %d answers otherwise", i)
			}
			if !slices.Equal(l, syms) || !same(a, was) {
				t.Errorf("P2: %d is changed", i)
			}
		}
	}
}

// answers are those of all calls.
func answers(l []api.Sym, a, b api.Auto, most int) []any {
	ways := seek.Ways(l, a)
	n, is := seek.Shortest(l, a)
	w, has := seek.Word(l, a)
	v, in, e := seek.Within(l, a, b, most)
	u, as, f := seek.Same(l, a, b, most)
	return []any{ways, n, is, w, has, v, in, e, u, as, f}
}

// P2: what is handed in stays, its spare room too, and is not kept. P3: the same calls answer the same.
func TestHandedIn(t *testing.T) {
	some(7, 400, 6, func(r *rand.Rand, l []api.Sym, a api.Auto) {
		b := anyMachine(r, l, 3)
		syms, c, d := room(l, api.Sym{Name: "junk", Kind: 1}), roomy(a), roomy(b)
		wasSyms, wasC, wasD := slices.Clone(syms[:cap(syms)]), roomy(whole(c)), roomy(whole(d))
		got := answers(syms, c, d, 60)
		if !slices.Equal(syms[:cap(syms)], wasSyms) || !same(whole(c), wasC) || !same(whole(d), wasD) {
			t.Fatalf("P2: %v, %v, %v is changed", l, a, b)
		}
		over(syms, api.Sym{})
		ruin(c)
		ruin(d)
		if want := fmt.Sprint(answers(l, a, b, 60)...); fmt.Sprint(got...) != want {
			t.Fatalf("P2, P3: %v is %v, once what was handed in is written over", want, got)
		}
	})
}

// P2: what is answered is new, its spare room too, and its rows share nothing.
func TestAnswered(t *testing.T) {
	some(8, 200, 6, func(r *rand.Rand, l []api.Sym, a api.Auto) {
		b := anyMachine(r, l, 3)
		c, d := roomy(a), roomy(b)
		wasC, wasD := roomy(whole(c)), roomy(whole(d))
		want := fmt.Sprint(answers(l, c, d, 60)...)
		for _, w := range answers(l, c, d, 60) {
			if w, ok := w.([]int); ok {
				over(w, -9)
			}
		}
		for p := range a.N {
			ways, was := seek.Ways(l, c), seek.Ways(l, c)
			over(ways[p], -9)
			for q := range a.N {
				if q != p && !slices.Equal(ways[q], was[q]) {
					t.Fatalf("P2: rows %d and %d share", p, q)
				}
			}
			over(ways, nil)
		}
		if again := fmt.Sprint(answers(l, c, d, 60)...); again != want || !same(whole(c), wasC) || !same(whole(d), wasD) {
			t.Fatalf("P2: %v, after what was answered is written over", again)
		}
	})
}
