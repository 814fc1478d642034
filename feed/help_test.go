package feed_test

import (
	"fmt"
	"math/rand"
	"slices"
	"testing"

	"canopy/api"
	"canopy/auto"
	"canopy/feed"
)

// Places of letters' symbols.
const (
	x = iota
	shutA
	openA
	plainA
	openB
	shutC
	long
	openLong
)

// letters are symbols of each kind, the kinds mixed; a name stands in more than one kind, one is as long as may be.
func letters() []api.Sym {
	return []api.Sym{
		{Name: "x", Kind: api.Plain},
		{Name: "a", Kind: api.Closes},
		{Name: "a", Kind: api.Opens},
		{Name: "a", Kind: api.Plain},
		{Name: "b", Kind: api.Opens},
		{Name: "c", Kind: api.Closes},
		{Name: "abcdefgh", Kind: api.Plain},
		{Name: "abcdefgh", Kind: api.Opens},
	}
}

// opens makes rules of numbers: From, Sym, To, Push, From ..
func opens(n ...int) []api.Open {
	var l []api.Open
	for q := range slices.Chunk(n, 4) {
		l = append(l, api.Open{From: q[0], Sym: q[1], To: q[2], Push: q[3]})
	}
	return l
}

// closes makes rules of numbers: From, Sym, Top, To, From ..
func closes(n ...int) []api.Close {
	var l []api.Close
	for q := range slices.Chunk(n, 4) {
		l = append(l, api.Close{From: q[0], Sym: q[1], Top: q[2], To: q[3]})
	}
	return l
}

// inners makes rules of numbers: From, Sym, To, From ..
func inners(n ...int) []api.Inner {
	var l []api.Inner
	for q := range slices.Chunk(n, 3) {
		l = append(l, api.Inner{From: q[0], Sym: q[1], To: q[2]})
	}
	return l
}

// nested takes words of x, <a> and </a>, each of which has its partner.
func nested() api.Auto {
	return api.Auto{
		N: 2, G: 2, Init: []int{0}, Final: []int{0},
		Opens:  opens(0, openA, 1, 1, 1, openA, 1, 2),
		Closes: closes(1, shutA, 1, 0, 1, shutA, 2, 1),
		Inners: inners(0, x, 0, 1, x, 1),
	}
}

// all takes each word of letters.
func all() api.Auto {
	return api.Auto{
		N: 1, G: 1, Init: []int{0}, Final: []int{0},
		Opens:  opens(0, openA, 0, 1, 0, openB, 0, 1, 0, openLong, 0, 1),
		Closes: closes(0, shutA, 0, 0, 0, shutA, 1, 0, 0, shutC, 0, 0, 0, shutC, 1, 0),
		Inners: inners(0, x, 0, 0, plainA, 0, 0, long, 0),
	}
}

// machine fails the test, if a is none.
func machine(t *testing.T, a api.Auto) {
	t.Helper()
	if auto.Check(letters(), a) != api.OK {
		t.Fatalf("no machine: %v", a)
	}
}

// anyMachine is one over letters, some of whose rules stand more than once, in no order.
func anyMachine(r *rand.Rand, states, marks, rules int) api.Auto {
	a := api.Auto{N: states, G: marks}
	for range 1 + r.Intn(3) {
		a.Init = append(a.Init, r.Intn(states))
		a.Final = append(a.Final, r.Intn(states))
	}
	for range rules {
		from, to := r.Intn(states), r.Intn(states)
		switch sym := r.Intn(8); sym {
		case openA, openB, openLong:
			if marks > 0 {
				a.Opens = append(a.Opens, api.Open{From: from, Sym: sym, To: to, Push: 1 + r.Intn(marks)})
			}
		case shutA, shutC:
			a.Closes = append(a.Closes, api.Close{From: from, Sym: sym, Top: r.Intn(marks + 1), To: to})
		default:
			a.Inners = append(a.Inners, api.Inner{From: from, Sym: sym, To: to})
		}
	}
	return a
}

// anyWord is one of n symbols of letters.
func anyWord(r *rand.Rand, n int) []int {
	var w []int
	for range n {
		w = append(w, r.Intn(8))
	}
	return w
}

// walk is a word of up to n symbols by which a may go, as far as it may: so that it is taken now and then.
func walk(r *rand.Rand, a api.Auto, n int) []int {
	var w []int
	at := spot{state: a.Init[r.Intn(len(a.Init))]}
	for range n {
		type step struct {
			sym int
			to  spot
		}
		var l []step
		for sym := range letters() {
			for _, to := range nexts(a, at, sym) {
				l = append(l, step{sym, to})
			}
		}
		if len(l) == 0 {
			break
		}
		s := l[r.Intn(len(l))]
		w, at = append(w, s.sym), s.to
	}
	return w
}

// written is a word's text with any blanks between, or none where none must be.
func written(r *rand.Rand, w []int) string {
	blanks := func() string { return string([]byte{" \t\n"[r.Intn(3)], " \t\n"[r.Intn(3)]}[:r.Intn(3)]) }
	s := blanks()
	wasPlain := false
	for _, sym := range w {
		c := letters()[sym]
		switch c.Kind {
		case api.Plain:
			if wasPlain {
				s += " "
			}
			s += c.Name
		case api.Opens:
			s += "<" + c.Name + ">"
		default:
			s += "</" + c.Name + ">"
		}
		s += blanks()
		wasPlain = c.Kind == api.Plain && s[len(s)-1] >= 'a'
	}
	return s
}

// spoilt is s with up to n bytes changed, put in or left out.
func spoilt(r *rand.Rand, s string, n int) string {
	const odd = "<>/abchxzA? \t\n\r\x00\xff"
	b := []byte(s)
	for range r.Intn(n + 1) {
		c, i := odd[r.Intn(len(odd))], r.Intn(len(b)+1)
		switch {
		case r.Intn(3) == 0 || i == len(b):
			b = slices.Insert(b, i, c)
		case r.Intn(2) == 0:
			b = slices.Delete(b, i, i+1)
		default:
			b[i] = c
		}
	}
	return string(b)
}

// cuts are pieces of s, cut anyhow; some may be empty.
func cuts(r *rand.Rand, s string) []string {
	var l []string
	for s != "" {
		k := min(len(s), r.Intn(1+r.Intn(9)))
		l, s = append(l, s[:k]), s[k:]
	}
	return l
}

// told is what a feed's calls answer: of Write, of Deep, of Close.
type told struct {
	at    int
	e     api.Errno
	deep  int
	is    bool
	place int
	err   api.Errno
}

func (x told) String() string {
	return fmt.Sprintf("%d %v, %d, %v %d %v", x.at, x.e, x.deep, x.is, x.place, x.err)
}

// fed is what is told of pieces that are written: by the last Write, by Deep, and by Close, behind which everything is closed.
func fed(t *testing.T, l []api.Sym, a api.Auto, deep int, pieces ...string) told {
	t.Helper()
	f := feed.New(l, a, deep)
	var x told
	for _, p := range pieces {
		x.at, x.e = f.Write([]byte(p))
	}
	x.deep = f.Deep()
	x.is, x.place, x.err = f.Close()
	closed(t, f, x.deep)
	return x
}

// closed fails unless a feed tells that it is closed, whatever is asked of it.
func closed(t *testing.T, f *feed.Feed, deep int) {
	t.Helper()
	for _, b := range []string{"", "x", "?", "<a>"} {
		if at, e := f.Write([]byte(b)); at != 0 || e != api.Closed {
			t.Errorf("P1401: Write behind Close: %d, %v", at, e)
		}
		if is, at, e := f.Close(); is || at != 0 || e != api.Closed {
			t.Errorf("P1401: Close behind Close: %v, %d, %v", is, at, e)
		}
		if f.Deep() != deep {
			t.Errorf("P1401: Deep behind Close: %d, not %d", f.Deep(), deep)
		}
	}
}

// room is l with spare room behind it, filled with v.
func room[T any](l []T, v T) []T {
	out := slices.Grow(slices.Clone(l), 8)
	for i := len(out); i < cap(out); i++ {
		out[:cap(out)][i] = v
	}
	return out
}

// spoil writes v over all of l, its spare room too.
func spoil[T any](l []T, v T) {
	l = l[:cap(l)]
	for i := range l {
		l[i] = v
	}
}
