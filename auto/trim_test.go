package auto_test

import (
	"math/rand"
	"slices"
	"testing"

	"canopy/api"
	"canopy/auto"
)

// trim fails unless Trim of a answers want.
func trim(t *testing.T, what string, a, want api.Auto) {
	t.Helper()
	check(t, what, letters(), a, api.OK)
	if got := auto.Trim(letters(), a); !same(got, want) {
		t.Errorf("Trim of %s: %v, not %v", what, got, want)
	}
}

// P302: what is reached, and what is not.
func TestTrim(t *testing.T) {
	one := api.Auto{N: 1, Init: []int{0}}
	trim(t, "nothing", api.Auto{}, api.Auto{})
	trim(t, "marks alone", api.Auto{G: 10000}, api.Auto{})
	a := small()
	a.Init = nil
	trim(t, "no Init", a, api.Auto{})
	trim(t, "one state", one, one)
	trim(t, "the last state, often", api.Auto{N: 200, G: 5, Init: []int{199, 199}}, one)
	trim(t, "states of Init and Final", api.Auto{N: 5, Init: []int{4, 1}, Final: []int{2, 4, 3, 4}}, api.Auto{N: 2, Init: []int{0, 1}, Final: []int{1}})
	a = small()
	a.G = 1
	trim(t, "a small one", small(), a)
	trim(t, "rules that stand twice, not in order",
		api.Auto{N: 2, Init: []int{1}, Final: []int{0}, Inners: inners(1, 3, 0, 1, 0, 1, 1, 3, 0, 0, 0, 0)},
		api.Auto{N: 2, Init: []int{1}, Final: []int{0}, Inners: inners(0, 0, 0, 1, 0, 1, 1, 3, 0)})
	trim(t, "rules from what is not reached",
		api.Auto{N: 3, G: 2, Init: []int{2}, Opens: opens(0, 2, 2, 2, 2, 4, 2, 1), Closes: closes(0, 1, 0, 2), Inners: inners(1, 0, 0, 0, 0, 1)},
		api.Auto{N: 1, G: 1, Init: []int{0}, Opens: opens(0, 4, 0, 1)})
}

// P302: a Close comes where nothing is left, or where its mark is pushed by a rule that comes, be it later or by itself alone.
func TestTrimCloses(t *testing.T) {
	trim(t, "a Close with Top 0",
		api.Auto{N: 3, G: 1, Init: []int{0}, Closes: closes(0, 1, 0, 2, 2, 1, 1, 1)},
		api.Auto{N: 2, Init: []int{0}, Closes: closes(0, 1, 0, 1)})
	trim(t, "a mark that nothing pushes",
		api.Auto{N: 2, G: 2, Init: []int{0}, Opens: opens(0, 2, 0, 2), Closes: closes(0, 1, 1, 1)},
		api.Auto{N: 1, G: 1, Init: []int{0}, Opens: opens(0, 2, 0, 1)})
	trim(t, "a mark that is pushed only behind its Close",
		api.Auto{N: 2, G: 1, Init: []int{0}, Opens: opens(1, 2, 1, 1), Closes: closes(0, 1, 1, 1)},
		api.Auto{N: 1, Init: []int{0}})
	trim(t, "a mark that is pushed late",
		api.Auto{N: 4, G: 7, Init: []int{3}, Final: []int{0}, Closes: closes(3, 1, 7, 0, 1, 1, 3, 1), Inners: inners(3, 0, 2), Opens: opens(2, 2, 2, 7)},
		api.Auto{N: 3, G: 1, Init: []int{2}, Final: []int{0}, Closes: closes(2, 1, 1, 0), Inners: inners(2, 0, 1), Opens: opens(1, 2, 1, 1)})
	trim(t, "a mark that is pushed elsewhere, by another symbol",
		api.Auto{N: 3, G: 1, Init: []int{0, 2}, Opens: opens(2, 4, 2, 1), Closes: closes(0, 1, 1, 1)},
		api.Auto{N: 3, G: 1, Init: []int{0, 2}, Opens: opens(2, 4, 2, 1), Closes: closes(0, 1, 1, 1)})
	trim(t, "a mark that is never taken",
		api.Auto{N: 1, G: 9, Init: []int{0}, Opens: opens(0, 2, 0, 9, 0, 2, 0, 4)},
		api.Auto{N: 1, G: 2, Init: []int{0}, Opens: opens(0, 2, 0, 1, 0, 2, 0, 2)})
	trim(t, "marks that are taken, Top 0 beside",
		api.Auto{N: 1, G: 9, Init: []int{0}, Opens: opens(0, 2, 0, 9, 0, 2, 0, 4), Closes: closes(0, 5, 9, 0, 0, 5, 0, 0, 0, 5, 8, 0, 0, 1, 4, 0)},
		api.Auto{N: 1, G: 2, Init: []int{0}, Opens: opens(0, 2, 0, 1, 0, 2, 0, 2), Closes: closes(0, 1, 1, 0, 0, 5, 0, 0, 0, 5, 2, 0)})
}

// trimmed is Trim by other means: rules are gone through again and again, till none is new.
func trimmed(a api.Auto) api.Auto {
	state, mark := make([]bool, a.N), make([]bool, a.G+1)
	mark[0] = true
	for _, s := range a.Init {
		state[s] = true
	}
	for range a.N + a.G + 1 {
		for _, r := range a.Inners {
			state[r.To] = state[r.To] || state[r.From]
		}
		for _, r := range a.Opens {
			state[r.To], mark[r.Push] = state[r.To] || state[r.From], mark[r.Push] || state[r.From]
		}
		for _, r := range a.Closes {
			state[r.To] = state[r.To] || state[r.From] && mark[r.Top]
		}
	}
	count := func(l []bool, n int) int {
		c := 0
		for _, is := range l[:n] {
			if is {
				c++
			}
		}
		return c
	}
	s := func(old int) int { return count(state, old) }
	m := func(old int) int { return count(mark, old) }
	b := api.Auto{N: s(a.N), G: m(a.G+1) - 1}
	for i, is := range state {
		if is && slices.Contains(a.Init, i) {
			b.Init = append(b.Init, s(i))
		}
		if is && slices.Contains(a.Final, i) {
			b.Final = append(b.Final, s(i))
		}
	}
	a = auto.Norm(a)
	for _, r := range a.Opens {
		if state[r.From] {
			b.Opens = append(b.Opens, api.Open{From: s(r.From), Sym: r.Sym, To: s(r.To), Push: m(r.Push)})
		}
	}
	for _, r := range a.Closes {
		if state[r.From] && mark[r.Top] {
			b.Closes = append(b.Closes, api.Close{From: s(r.From), Sym: r.Sym, Top: m(r.Top), To: s(r.To)})
		}
	}
	for _, r := range a.Inners {
		if state[r.From] {
			b.Inners = append(b.Inners, api.Inner{From: s(r.From), Sym: r.Sym, To: s(r.To)})
		}
	}
	return b
}

// takes tells whether a takes w from a state on, the marks as a row, the last one last.
func takes(a api.Auto, state int, marks []int, w []int) bool {
	if len(w) == 0 {
		return slices.Contains(a.Final, state)
	}
	sym, rest := w[0], w[1:]
	for _, r := range a.Inners {
		if r.From == state && r.Sym == sym && takes(a, r.To, marks, rest) {
			return true
		}
	}
	for _, r := range a.Opens {
		if r.From == state && r.Sym == sym && takes(a, r.To, append(slices.Clone(marks), r.Push), rest) {
			return true
		}
	}
	top, left := 0, marks
	if last := len(marks) - 1; last >= 0 {
		top, left = marks[last], marks[:last]
	}
	for _, r := range a.Closes {
		if r.From == state && r.Sym == sym && r.Top == top && takes(a, r.To, left, rest) {
			return true
		}
	}
	return false
}

// takesWord tells whether a takes w from one of Init on.
func takesWord(a api.Auto, w []int) bool {
	return slices.ContainsFunc(a.Init, func(s int) bool { return takes(a, s, nil, w) })
}

// P302, P303, P3: machines that lose nothing, some, and all.
func TestTrimAny(t *testing.T) {
	r := rand.New(rand.NewSource(6))
	l := letters()
	all, some, none, taken := 0, 0, 0, 0
	for range 4000 {
		a := anyMachine(r, 1+r.Intn(7), r.Intn(5), r.Intn(16))
		check(t, "a machine", l, a, api.OK)
		b := auto.Trim(l, a)
		if want := trimmed(a); !same(b, want) || !same(auto.Trim(l, a), want) {
			t.Fatalf("Trim of %v: %v, not %v", a, b, want)
		}
		if auto.Check(l, b) != api.OK || !same(auto.Norm(b), b) || !same(auto.Trim(l, b), b) {
			t.Fatalf("Trim of %v: %v, which is no machine, not normed, or not as its own Trim", a, b)
		}
		switch b.N {
		case a.N:
			all++
		case 0:
			none++
		default:
			some++
		}
		for range 10 {
			w := make([]int, r.Intn(6))
			for i := range w {
				w[i] = r.Intn(len(l))
			}
			is := takesWord(a, w)
			if takesWord(b, w) != is || takesWord(auto.Norm(a), w) != is {
				t.Fatalf("Trim, or Norm, of %v takes %v otherwise", a, w)
			}
			if is {
				taken++
			}
		}
	}
	if min(all, some, none, taken) < 300 {
		t.Errorf("of some kind there is too little to tell: %d, %d, %d, %d", all, some, none, taken)
	}
}

// P303: all short words, of machines with few states.
func TestTrimTakesTheSame(t *testing.T) {
	r := rand.New(rand.NewSource(7))
	l := letters()
	for range 60 {
		a := anyMachine(r, 1+r.Intn(4), 2, 4+r.Intn(12))
		b := auto.Trim(l, a)
		for n, count := 0, 1; n <= 4; n, count = n+1, count*len(l) {
			for number := range count {
				w := make([]int, n)
				for i := range w {
					w[i], number = number%len(l), number/len(l)
				}
				if takesWord(a, w) != takesWord(b, w) {
					t.Fatalf("Trim of %v takes %v otherwise", a, w)
				}
			}
		}
	}
}

// P302: a machine of as many states, marks and rules as may be, in which each thing is found by the one ahead alone, the rules standing the wrong way round.
func TestTrimLongChain(t *testing.T) {
	a := api.Auto{N: 200, G: 10000, Init: []int{199}, Final: []int{0}}
	for s := range 199 {
		a.Opens = append(a.Opens, api.Open{From: s + 1, Sym: 2, To: s + 1, Push: 10000 - 50*s})
		a.Closes = append(a.Closes, api.Close{From: s + 1, Sym: 1, Top: 10000 - 50*s, To: s})
		a.Closes = append(a.Closes, api.Close{From: s + 1, Sym: 5, Top: 9999 - 50*s, To: 0})
	}
	want := trimmed(a)
	for len(a.Opens)+len(a.Closes)+len(a.Inners) < api.MaxRules {
		a.Inners = append(a.Inners, api.Inner{From: len(a.Inners) % 200, Sym: 0, To: 199})
	}
	for s := range 200 {
		want.Inners = append(want.Inners, api.Inner{From: s, Sym: 0, To: 199})
	}
	if want.N != 200 || want.G != 199 || len(want.Closes) != 199 {
		t.Fatalf("the chain is broken: %v", want)
	}
	trim(t, "a long chain", a, want)
}
