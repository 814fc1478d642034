package fold_test

import (
	"fmt"
	"math/rand"
	"slices"
	"testing"

	"canopy/api"
	"canopy/fold"
)

// open, shut, plain are symbols.
func open(i int) api.Pair  { return api.Pair{A: api.Opens, B: i} }
func shut(i int) api.Pair  { return api.Pair{A: api.Closes, B: i} }
func plain(i int) api.Pair { return api.Pair{A: api.Plain, B: i} }

// filled is a row of n numbers.
func filled(n, v int) []int { return slices.Repeat([]int{v}, n) }

// blank is a machine whose states are of these modules, each of which is entered at its least state; each step leads to the least state, but a return, which leads to what was pushed.
func blank(of []int, plains, closings int) api.Mod {
	m := api.Mod{Plains: plains, Closings: closings, Of: of, Final: make([]bool, len(of))}
	for k := range slices.Max(of) + 1 {
		m.Entry = append(m.Entry, slices.Index(of, k))
	}
	for p, k := range of {
		m.In = append(m.In, filled(plains, m.Entry[k]))
		m.Low, m.Ret = append(m.Low, nil), append(m.Ret, nil)
		if k == 0 {
			m.Low[p] = filled(closings, m.Entry[0])
			continue
		}
		for range closings {
			var row []int
			for q := range of {
				row = append(row, q)
			}
			m.Ret[p] = append(m.Ret[p], row)
		}
	}
	return m
}

// alone is a machine of n states of the base, and of a plain symbol.
func alone(n int) api.Mod { return blank(filled(n, 0), 1, 0) }

// anyMod is any machine of so many modules, of up to most states each. It may be one that goes to few of them, so that others are not reached.
func anyMod(r *rand.Rand, modules, most, plains, closings int) api.Mod {
	var of []int
	for k := range modules {
		of = append(of, filled(1+r.Intn(most), k)...)
	}
	r.Shuffle(len(of), func(i, j int) { of[i], of[j] = of[j], of[i] })
	m := blank(of, plains, closings)
	few := 1 + r.Intn(1+most)
	any := func(k int) int {
		var l []int
		for p := range of {
			if of[p] == k {
				l = append(l, p)
			}
		}
		return l[r.Intn(min(len(l), few))]
	}
	for p, k := range of {
		m.Final[p] = r.Intn(3) == 0
		for i := range plains {
			m.In[p][i] = any(k)
		}
		for j := range m.Low[p] {
			m.Low[p][j] = any(0)
		}
		for j := range m.Ret[p] {
			for q := range of {
				m.Ret[p][j][q] = any(of[q])
			}
		}
	}
	for k := range m.Entry {
		m.Entry[k] = any(k)
	}
	return m
}

// blown is m with up to most states more, each of which does as another one does: where m goes to a state, it goes to any that does as that. It tells as which each does.
func blown(r *rand.Rand, m api.Mod, most int) (api.Mod, []int) {
	n := len(m.Of)
	as := r.Perm(n)
	for range r.Intn(most + 1) {
		as = slices.Insert(as, r.Intn(len(as)+1), r.Intn(n))
	}
	any := func(p int) int {
		var l []int
		for q := range as {
			if as[q] == p {
				l = append(l, q)
			}
		}
		return l[r.Intn(len(l))]
	}
	all := func(l []int) []int {
		var out []int
		for _, p := range l {
			out = append(out, any(p))
		}
		return out
	}
	out := api.Mod{Plains: m.Plains, Closings: m.Closings, Entry: all(m.Entry)}
	for _, p := range as {
		out.Of, out.Final = append(out.Of, m.Of[p]), append(out.Final, m.Final[p])
		out.In, out.Low = append(out.In, all(m.In[p])), append(out.Low, all(m.Low[p]))
		var ret [][]int
		for _, l := range m.Ret[p] {
			var row []int
			for _, q := range as {
				row = append(row, any(l[q]))
			}
			ret = append(ret, row)
		}
		out.Ret = append(out.Ret, ret)
	}
	return out, as
}

// some goes through n machines of few states.
func some(t *testing.T, seed int64, n int, tell func(r *rand.Rand, m api.Mod)) {
	t.Helper()
	r := rand.New(rand.NewSource(seed))
	for range n {
		m := anyMod(r, 1+r.Intn(4), 1+r.Intn(5), r.Intn(3), r.Intn(3))
		if r.Intn(2) == 0 {
			m, _ = blown(r, m, 6)
		}
		isMod(t, m)
		tell(r, m)
	}
}

// symbols are all of m.
func symbols(m api.Mod) []api.Pair {
	var l []api.Pair
	for kind, n := range []int{api.Opens: len(m.Entry) - 1, api.Closes: m.Closings, api.Plain: m.Plains} {
		for i := range n {
			l = append(l, api.Pair{A: kind, B: i})
		}
	}
	return l
}

// anyWord is one of up to n symbols.
func anyWord(r *rand.Rand, m api.Mod, n int) []api.Pair {
	all := symbols(m)
	var w []api.Pair
	for range r.Intn(n + 1) {
		if len(all) > 0 {
			w = append(w, all[r.Intn(len(all))])
		}
	}
	return w
}

// isMod fails unless m is a machine of modules.
func isMod(t *testing.T, m api.Mod) {
	t.Helper()
	if e := fold.Check(m); e != api.OK {
		t.Fatalf("P1301: Check of %v: %v", m, e)
	}
}

// small is Small of m, which is to answer.
func small(t *testing.T, m api.Mod) api.Mod {
	t.Helper()
	s, e := fold.Small(m)
	if e != api.OK {
		t.Fatalf("P1302: Small of %v: %v", m, e)
	}
	return s
}

// refused fails unless nothing is answered of m, which is no machine.
func refused(t *testing.T, what string, m api.Mod) {
	t.Helper()
	if e := fold.Check(m); e != api.BadMod {
		t.Errorf("P1301: %s: Check %v", what, e)
	}
	if s, e := fold.Small(m); e != api.BadMod || !same(s, api.Mod{}) {
		t.Errorf("P1302, P4: %s: Small %v (%v)", what, s, e)
	}
	harmless(m)
}

// harmless calls what may answer anything of no machine, but may not panic.
func harmless(m api.Mod) {
	fold.Reached(m)
	fold.Classes(m)
	fold.Takes(m, nil)
	for i := range 3 {
		fold.Takes(m, []api.Pair{open(i), plain(i), shut(i), shut(i), plain(i)})
	}
}

// same tells whether a and b are one machine; no list is an empty one.
func same(a, b api.Mod) bool { return fmt.Sprint(a) == fmt.Sprint(b) }

// room is l with spare room behind it, filled with v.
func room[T any](l []T, v T) []T {
	out := slices.Grow(slices.Clone(l), 4)
	over(out[len(out):], v)
	return out
}

// over writes v over l, its spare room too.
func over[T any](l []T, v T) {
	l = l[:cap(l)]
	for i := range l {
		l[i] = v
	}
}

// each is l with tell done to each row.
func each(l [][]int, tell func(l []int) []int) [][]int {
	out := slices.Clone(l)
	for i := range out {
		out[i] = tell(out[i])
	}
	return out
}

// roomy is m, each list of it with spare room behind it.
func roomy(m api.Mod) api.Mod {
	row := func(l []int) []int { return room(l, -7) }
	m.Of, m.Entry, m.Final = row(m.Of), row(m.Entry), room(m.Final, true)
	m.In, m.Low = room(each(m.In, row), []int{-7}), room(each(m.Low, row), []int{-7})
	ret := slices.Clone(m.Ret)
	for p := range ret {
		ret[p] = room(each(ret[p], row), []int{-7})
	}
	m.Ret = room(ret, [][]int{{-7}})
	return m
}

// whole is m with its spare room.
func whole(m api.Mod) api.Mod {
	row := func(l []int) []int { return l[:cap(l)] }
	m.Of, m.Entry, m.Final = row(m.Of), row(m.Entry), m.Final[:cap(m.Final)]
	m.In, m.Low = each(m.In[:cap(m.In)], row), each(m.Low[:cap(m.Low)], row)
	ret := slices.Clone(m.Ret[:cap(m.Ret)])
	for p := range ret {
		ret[p] = each(ret[p][:cap(ret[p])], row)
	}
	m.Ret = ret
	return m
}

// lists are all lists of numbers of m.
func lists(m api.Mod) [][]int {
	return slices.Concat([][]int{m.Of, m.Entry}, m.In, m.Low, slices.Concat(m.Ret...))
}

// ruin writes over all that m has, the spare room too.
func ruin(m api.Mod) {
	for _, l := range lists(m) {
		over(l, -9)
	}
	for _, l := range m.Ret {
		over(l, []int{-9})
	}
	over(m.Final, true)
	over(m.In, []int{-9})
	over(m.Low, []int{-9})
	over(m.Ret, [][]int{{-9}})
}
