package runs_test

import (
	"math/rand"
	"slices"
	"testing"

	"canopy/api"
	"canopy/auto"
	"canopy/runs"
)

// Places of letters' symbols.
const (
	x = iota
	shutA
	openA
	y
	openB
	shutC
)

// letters are symbols of each kind, the kinds mixed.
func letters() []api.Sym {
	return []api.Sym{
		{Name: "x", Kind: api.Plain},
		{Name: "a", Kind: api.Closes},
		{Name: "a", Kind: api.Opens},
		{Name: "y", Kind: api.Plain},
		{Name: "b", Kind: api.Opens},
		{Name: "c", Kind: api.Closes},
	}
}

// opens makes rules of numbers: From, Sym, To, Push, From ..
func opens(n ...int) []api.Open {
	var l []api.Open
	for q := range slices.Chunk(n, 4) {
		l = append(l, api.Open{From: q[0], Sym: q[1], To: q[2], Push: q[3]})
	}
	return l
}

// closes makes rules of numbers: From, Sym, Top, To, From ..
func closes(n ...int) []api.Close {
	var l []api.Close
	for q := range slices.Chunk(n, 4) {
		l = append(l, api.Close{From: q[0], Sym: q[1], Top: q[2], To: q[3]})
	}
	return l
}

// inners makes rules of numbers: From, Sym, To, From ..
func inners(n ...int) []api.Inner {
	var l []api.Inner
	for q := range slices.Chunk(n, 3) {
		l = append(l, api.Inner{From: q[0], Sym: q[1], To: q[2]})
	}
	return l
}

// is makes an At of a state and marks, the last one first.
func is(state int, marks ...int) runs.At { return runs.At{State: state, Stack: marks} }

// machine fails the test, if a is none.
func machine(t *testing.T, a api.Auto) {
	t.Helper()
	if auto.Check(letters(), a) != api.OK {
		t.Fatalf("no machine: %v", a)
	}
}

// anyMachine is one over letters. Few symbols are left without rules, so that there are many ways to go.
func anyMachine(r *rand.Rand, states, marks, rules int) api.Auto {
	a := api.Auto{N: states, G: marks}
	for range 1 + r.Intn(3) {
		a.Init = append(a.Init, r.Intn(states))
	}
	for range r.Intn(3) {
		a.Final = append(a.Final, r.Intn(states))
	}
	for range rules {
		from, to := r.Intn(states), r.Intn(states)
		switch sym := r.Intn(6); sym {
		case openA, openB:
			if marks > 0 {
				a.Opens = append(a.Opens, api.Open{From: from, Sym: sym, To: to, Push: 1 + r.Intn(marks)})
			}
		case shutA, shutC:
			a.Closes = append(a.Closes, api.Close{From: from, Sym: sym, Top: r.Intn(marks + 1), To: to})
		default:
			a.Inners = append(a.Inners, api.Inner{From: from, Sym: sym, To: to})
		}
	}
	return a
}

// nexts are where a may be behind sym, from one place on, by rule after rule, in no order.
func nexts(a api.Auto, at runs.At, sym int) []runs.At {
	var l []runs.At
	for _, r := range a.Inners {
		if r.From == at.State && r.Sym == sym {
			l = append(l, at)
			l[len(l)-1].State = r.To
		}
	}
	for _, r := range a.Opens {
		if r.From == at.State && r.Sym == sym {
			l = append(l, is(r.To, append([]int{r.Push}, at.Stack...)...))
		}
	}
	for _, r := range a.Closes {
		if r.From != at.State || r.Sym != sym {
			continue
		}
		if len(at.Stack) == 0 && r.Top == 0 {
			l = append(l, is(r.To))
		}
		if len(at.Stack) > 0 && r.Top == at.Stack[0] {
			l = append(l, is(r.To, at.Stack[1:]...))
		}
	}
	return l
}

// row is at as one row of numbers.
func row(at runs.At) []int { return append([]int{at.State}, at.Stack...) }

// less tells whether row a is ahead of row b.
func less(a, b []int) bool {
	for i := range a {
		if i == len(b) || a[i] != b[i] {
			return i < len(b) && a[i] < b[i]
		}
	}
	return len(a) < len(b)
}

// sameAt tells whether two places are one.
func sameAt(a, b runs.At) bool { return a.State == b.State && slices.Equal(a.Stack, b.Stack) }

// same tells whether two lists of places are one; no list is an empty one.
func same(a, b []runs.At) bool { return slices.EqualFunc(a, b, sameAt) }

// insert puts one more in its order, if it is not there.
func insert(l []runs.At, at runs.At) []runs.At {
	i := 0
	for i < len(l) && less(row(l[i]), row(at)) {
		i++
	}
	if i < len(l) && sameAt(l[i], at) {
		return l
	}
	return slices.Insert(l, i, at)
}

// stepped is Step by other means.
func stepped(a api.Auto, at []runs.At, sym int) []runs.At {
	var l []runs.At
	for _, from := range at {
		for _, to := range nexts(a, from, sym) {
			l = insert(l, to)
		}
	}
	return l
}

// takesFrom tells whether there is a way from one place on to Final.
func takesFrom(a api.Auto, at runs.At, w []int) bool {
	if len(w) == 0 {
		return slices.Contains(a.Final, at.State)
	}
	return slices.ContainsFunc(nexts(a, at, w[0]), func(to runs.At) bool { return takesFrom(a, to, w[1:]) })
}

// taken is Takes by other means.
func taken(a api.Auto, w []int) bool {
	return slices.ContainsFunc(a.Init, func(s int) bool { return takesFrom(a, is(s), w) })
}

// copied is a list of places that shares nothing with at.
func copied(at []runs.At) []runs.At {
	at = slices.Clone(at)
	for i := range at {
		at[i].Stack = slices.Clone(at[i].Stack)
	}
	return at
}

// room is l with spare room behind it, filled with v.
func room[T any](l []T, v T) []T {
	out := slices.Grow(slices.Clone(l), 8)
	for i := len(out); i < cap(out); i++ {
		out[:cap(out)][i] = v
	}
	return out
}

// spoil writes v over all of l, its spare room too.
func spoil[T any](l []T, v T) {
	l = l[:cap(l)]
	for i := range l {
		l[i] = v
	}
}
