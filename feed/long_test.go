package feed_test

import (
	"math/rand"
	"slices"
	"strings"
	"testing"

	"canopy/api"
	"canopy/feed"
	"canopy/runs"
	"canopy/word"
)

// pieces writes s in pieces of n bytes.
func pieces(f *feed.Feed, s string, n int) (int, api.Errno) {
	for p := range slices.Chunk([]byte(s), n) {
		if at, e := f.Write(p); e != api.OK {
			return at, e
		}
	}
	return 0, api.OK
}

// streamed is whether a takes s, which has no error, however it is cut.
func streamed(t *testing.T, a api.Auto, deep int, s string) bool {
	t.Helper()
	machine(t, a)
	var is [2]bool
	for i, n := range []int{len(s) + 1, 7} {
		f := feed.New(letters(), a, deep)
		if at, e := pieces(f, s, n); at != 0 || e != api.OK {
			t.Fatalf("P1401: an error: %d, %v", at, e)
		}
		var e api.Errno
		is[i], _, e = f.Close()
		if e != api.OK {
			t.Fatalf("P1401: an error: %v", e)
		}
	}
	if is[0] != is[1] {
		t.Fatal("P1403: it hangs on how it is cut")
	}
	return is[0]
}

// guesses pushes any of g marks at each <a>, and takes any: so there are g times as many stacks by each.
func guesses(g int) api.Auto {
	a := api.Auto{N: 1, G: g, Init: []int{0}, Final: []int{0}}
	for m := 1; m <= g; m++ {
		a.Opens = append(a.Opens, api.Open{From: 0, Sym: openA, To: 0, Push: m})
		a.Closes = append(a.Closes, api.Close{From: 0, Sym: shutA, Top: m, To: 0})
	}
	return a
}

// P1403: far more stacks than there is memory for.
func TestManyStacks(t *testing.T) {
	for _, n := range []int{1, 10, 100, 3000} {
		s := strings.Repeat("<a>", n) + strings.Repeat("</a>", n)
		if !streamed(t, guesses(4), n, s) || streamed(t, guesses(4), n, s+"</a>") || streamed(t, guesses(4), n, s+"x") {
			t.Errorf("P1403: a word of %d", n)
		}
	}
}

// P1403: a guess is kept: one mark of a hundred was pushed in another state, and whoever took it, ends well.
func TestGuessIsKept(t *testing.T) {
	a := api.Auto{
		N: 4, G: 2, Init: []int{0}, Final: []int{3},
		Opens:  opens(0, openA, 0, 1, 0, openA, 1, 2, 1, openA, 1, 1, 3, openA, 3, 1),
		Inners: inners(1, x, 2),
		Closes: closes(0, shutA, 1, 0, 1, shutA, 1, 1, 2, shutA, 2, 3, 3, shutA, 1, 3),
	}
	for n := 1; n < 60; n++ {
		down, up := strings.Repeat("<a>", n), strings.Repeat("</a>", n)
		flat, deep := strings.Repeat("<a></a>", n), down+"x"+up
		for s, want := range map[string]bool{
			deep: true, flat + deep + flat: true, "<a><a>" + flat + deep + flat + down: true, flat: false, down + "x<a>": false, down + "x": false, deep + deep: false,
		} {
			if got := streamed(t, a, 4*n+4, s); got != want {
				t.Fatalf("P1403: %q: %v", s, got)
			}
		}
	}
}

// P1401, P1403: long streams, flat and deep, and errors at their ends.
func TestLongStreams(t *testing.T) {
	const n = 300000
	a := nested()
	down, up := strings.Repeat("<a>", n), strings.Repeat("</a>", n)
	for what, c := range map[string]struct {
		s    string
		want bool
	}{
		"plain":               {strings.Repeat("x ", n), true},
		"pairs":               {strings.Repeat("<a>x</a>\n", n), true},
		"deep":                {down + up, true},
		"one too many opens":  {"<a>" + down + up, false},
		"one too many closes": {down + up + "</a>", false},
		"nowhere, and deep":   {"a" + down + up + down, false},
	} {
		if got := streamed(t, a, n+1, c.s); got != c.want {
			t.Errorf("P1403: a long stream, %s: %v", what, got)
		}
	}
	for s, want := range map[string]told{
		down + "<a>":                          bad(3*n, api.Depth, n),
		"a" + down + "<a>":                    bad(3*n+1, api.Depth, n),
		down + up + down + "x<a>":             bad(10*n+1, api.Depth, n),
		down + "?":                            bad(3*n, api.BadToken, n),
		down + up + "x":                       good(0, true),
		down + strings.Repeat(" ", n) + "<q":  late(4*n, n),
		down + strings.Repeat("\n", n) + "<>": bad(4*n, api.BadToken, n),
	} {
		if got := fed(t, letters(), a, n, s); got != want {
			t.Errorf("P1401: at the end of a long stream: %v, not %v", got, want)
		}
	}
}

// P1403: a machine of as many states, marks, rules as may be.
func TestGreatest(t *testing.T) {
	a := api.Auto{N: 200, G: 10000, Init: []int{199}, Final: []int{0}}
	for s := range 199 {
		a.Opens = append(a.Opens, api.Open{From: s + 1, Sym: openA, To: s, Push: 10000 - s})
		a.Closes = append(a.Closes, api.Close{From: s, Sym: shutA, Top: 10000 - s, To: s + 1})
	}
	for len(a.Opens)+len(a.Closes)+len(a.Inners) < api.MaxRules {
		a.Inners = append(a.Inners, api.Inner{From: len(a.Inners) % 200, Sym: x, To: len(a.Inners) % 200})
	}
	down, up := strings.Repeat("<a>", 199), strings.Repeat("</a>", 199)
	for s, want := range map[string]bool{
		down:                   true,
		down + up + "x" + down: true,
		down + up:              false,
		down + up[4:] + "x" + down[3:] + strings.Repeat("x ", 50): true,
		down + up[4:] + down: false,
		down + up + up:       false,
	} {
		if got := streamed(t, a, 999, s); got != want {
			t.Errorf("P1403: %q: %v", s, got)
		}
	}
}

// P1403: a machine that may go from each state to each.
func TestDense(t *testing.T) {
	r := rand.New(rand.NewSource(7))
	a := api.Auto{N: 200, G: 3, Init: []int{0, 63, 64, 127, 128, 199}, Final: []int{65}}
	for range 33000 {
		a.Opens = append(a.Opens, api.Open{From: r.Intn(200), Sym: openA, To: r.Intn(200), Push: 1 + r.Intn(3)})
		a.Closes = append(a.Closes, api.Close{From: r.Intn(200), Sym: shutA, Top: 1 + r.Intn(3), To: r.Intn(200)})
		a.Inners = append(a.Inners, api.Inner{From: r.Intn(200), Sym: x, To: r.Intn(200)})
	}
	s := strings.Repeat("<a>", 40) + "x x" + strings.Repeat("</a>", 40)
	if !streamed(t, a, 40, s) || streamed(t, a, 40, s+"</a>") || streamed(t, a, 40, s+"a") {
		t.Error("P1403: a dense machine")
	}
}

// P1403: sparse machines of many states and marks.
func TestManyStates(t *testing.T) {
	r := rand.New(rand.NewSource(8))
	yes, no := 0, 0
	for range 60 {
		a := anyMachine(r, 200, 40, 2500)
		for range 40 {
			a.Final = append(a.Final, r.Intn(200))
		}
		for range 10 {
			w := append(walk(r, a, 8), anyWord(r, r.Intn(3))...)
			want := taken(a, w)
			if got := streamed(t, a, 10, word.Text(letters(), w)); got != want || got != runs.Takes(letters(), a, w) {
				t.Fatalf("P1403: %v: %v", w, got)
			}
			if want {
				yes++
			} else {
				no++
			}
		}
	}
	if yes < 50 || no < 50 {
		t.Errorf("too few to tell: %d, %d", yes, no)
	}
}

// P1403: long words by machines with many ways to go.
func TestLongWalks(t *testing.T) {
	r := rand.New(rand.NewSource(9))
	yes, no := 0, 0
	for range 300 {
		a := anyMachine(r, 2+r.Intn(6), 1+r.Intn(4), 20+r.Intn(40))
		w := walk(r, a, 400)
		s := written(r, w)
		want := runs.Takes(letters(), a, w)
		if got := streamed(t, a, word.Deep(letters(), w), s); got != want {
			t.Fatalf("P1403: %q: %v", s, got)
		}
		if len(w) > 100 && want {
			yes++
		} else if len(w) > 100 {
			no++
		}
	}
	if yes < 30 || no < 30 {
		t.Errorf("too few to tell: %d, %d", yes, no)
	}
}
