package auto_test

import (
	"math"
	"math/rand"
	"slices"
	"testing"

	"canopy/api"
	"canopy/auto"
)

// letters are symbols of each kind, the kinds mixed.
func letters() []api.Sym {
	return []api.Sym{
		{Name: "x", Kind: api.Plain},
		{Name: "a", Kind: api.Closes},
		{Name: "a", Kind: api.Opens},
		{Name: "y", Kind: api.Plain},
		{Name: "b", Kind: api.Opens},
		{Name: "c", Kind: api.Closes},
	}
}

// ofKind are the places of l's symbols of a kind.
func ofKind(l []api.Sym, kind int) []int {
	var places []int
	for i, s := range l {
		if s.Kind == kind {
			places = append(places, i)
		}
	}
	return places
}

// opens makes rules of numbers: From, Sym, To, Push, From ..
func opens(n ...int) []api.Open {
	var l []api.Open
	for q := range slices.Chunk(n, 4) {
		l = append(l, api.Open{From: q[0], Sym: q[1], To: q[2], Push: q[3]})
	}
	return l
}

// closes makes rules of numbers: From, Sym, Top, To, From ..
func closes(n ...int) []api.Close {
	var l []api.Close
	for q := range slices.Chunk(n, 4) {
		l = append(l, api.Close{From: q[0], Sym: q[1], Top: q[2], To: q[3]})
	}
	return l
}

// inners makes rules of numbers: From, Sym, To, From ..
func inners(n ...int) []api.Inner {
	var l []api.Inner
	for q := range slices.Chunk(n, 3) {
		l = append(l, api.Inner{From: q[0], Sym: q[1], To: q[2]})
	}
	return l
}

// copied is a machine like a that shares nothing with it.
func copied(a api.Auto) api.Auto {
	a.Init, a.Final = slices.Clone(a.Init), slices.Clone(a.Final)
	a.Opens, a.Closes, a.Inners = slices.Clone(a.Opens), slices.Clone(a.Closes), slices.Clone(a.Inners)
	return a
}

// same tells whether a and b are one machine; no list is an empty one.
func same(a, b api.Auto) bool {
	return a.N == b.N && a.G == b.G && slices.Equal(a.Init, b.Init) && slices.Equal(a.Final, b.Final) &&
		slices.Equal(a.Opens, b.Opens) && slices.Equal(a.Closes, b.Closes) && slices.Equal(a.Inners, b.Inners)
}

// small is a machine with a rule of each kind.
func small() api.Auto {
	return api.Auto{
		N: 3, G: 2,
		Init:   []int{0},
		Final:  []int{2},
		Opens:  []api.Open{{From: 0, Sym: 2, To: 1, Push: 1}},
		Closes: []api.Close{{From: 1, Sym: 1, Top: 1, To: 2}},
		Inners: []api.Inner{{From: 1, Sym: 0, To: 1}},
	}
}

// anyMachine is one over letters.
func anyMachine(r *rand.Rand, states, marks, rules int) api.Auto {
	a := api.Auto{N: states, G: marks}
	for range r.Intn(3) {
		a.Init = append(a.Init, r.Intn(states))
	}
	for range r.Intn(4) {
		a.Final = append(a.Final, r.Intn(states))
	}
	pick := func(kind int) int { l := ofKind(letters(), kind); return l[r.Intn(len(l))] }
	for range rules {
		from, to := r.Intn(states), r.Intn(states)
		switch r.Intn(3) {
		case 0:
			a.Inners = append(a.Inners, api.Inner{From: from, Sym: pick(api.Plain), To: to})
		case 1:
			a.Closes = append(a.Closes, api.Close{From: from, Sym: pick(api.Closes), Top: r.Intn(marks + 1), To: to})
		default:
			if marks > 0 {
				a.Opens = append(a.Opens, api.Open{From: from, Sym: pick(api.Opens), To: to, Push: 1 + r.Intn(marks)})
			}
		}
	}
	return a
}

// check fails unless Check answers e.
func check(t *testing.T, what string, l []api.Sym, a api.Auto, e api.Errno) {
	t.Helper()
	if got := auto.Check(l, a); got != e {
		t.Errorf("Check of %s: %v, not %v", what, got, e)
	}
}

// P301
func TestCheckSizes(t *testing.T) {
	l := letters()
	check(t, "nothing", l, api.Auto{}, api.OK)
	check(t, "empty lists", l, api.Auto{Init: []int{}, Final: []int{}, Opens: []api.Open{}, Closes: []api.Close{}, Inners: []api.Inner{}}, api.OK)
	check(t, "a small one", l, small(), api.OK)
	for _, x := range []struct {
		n, g int
		e    api.Errno
	}{
		{200, 10000, api.OK},
		{200, 0, api.OK},
		{0, 10000, api.OK},
		{201, 0, api.BadAuto},
		{0, 10001, api.BadAuto},
		{-1, 0, api.BadAuto},
		{0, -1, api.BadAuto},
		{math.MaxInt, 0, api.BadAuto},
		{math.MinInt, 0, api.BadAuto},
		{0, math.MaxInt, api.BadAuto},
		{0, math.MinInt, api.BadAuto},
	} {
		check(t, "states and marks alone", l, api.Auto{N: x.n, G: x.g}, x.e)
	}
	few := api.Auto{N: 1, G: 1, Init: make([]int, 1<<18), Final: make([]int, 1<<18)}
	check(t, "a state in Init, Final often", l, few, api.OK)
	check(t, "no states, one in Init", l, api.Auto{Init: []int{0}}, api.BadAuto)
	check(t, "no states, one in Final", l, api.Auto{Final: []int{0}}, api.BadAuto)
}

// P301: rules count however often they stand, those of all kinds together.
func TestCheckRules(t *testing.T) {
	l := letters()
	for _, x := range []struct {
		opens, closes, inners int
		e                     api.Errno
	}{
		{100000, 0, 0, api.OK},
		{0, 100000, 0, api.OK},
		{0, 0, 100000, api.OK},
		{30000, 30000, 40000, api.OK},
		{100001, 0, 0, api.BadAuto},
		{0, 100001, 0, api.BadAuto},
		{0, 0, 100001, api.BadAuto},
		{30000, 30001, 40000, api.BadAuto},
		{100000, 1, 0, api.BadAuto},
		{0, 100000, 1, api.BadAuto},
		{1, 0, 100000, api.BadAuto},
	} {
		a := api.Auto{
			N: 1, G: 1,
			Opens:  slices.Repeat([]api.Open{{Sym: 2, Push: 1}}, x.opens),
			Closes: slices.Repeat([]api.Close{{Sym: 1}}, x.closes),
			Inners: slices.Repeat([]api.Inner{{Sym: 0}}, x.inners),
		}
		check(t, "so many rules", l, a, x.e)
	}
}

// field is a number of a machine, and what it may be.
type field struct {
	name string
	of   func(a *api.Auto) *int
	may  []int
}

// fields are all numbers of small, with what they may be over letters.
func fields() []field {
	l, states := letters(), []int{0, 1, 2}
	return []field{
		{"Init", func(a *api.Auto) *int { return &a.Init[0] }, states},
		{"Final", func(a *api.Auto) *int { return &a.Final[0] }, states},
		{"Open's From", func(a *api.Auto) *int { return &a.Opens[0].From }, states},
		{"Open's Sym", func(a *api.Auto) *int { return &a.Opens[0].Sym }, ofKind(l, api.Opens)},
		{"Open's To", func(a *api.Auto) *int { return &a.Opens[0].To }, states},
		{"Open's Push", func(a *api.Auto) *int { return &a.Opens[0].Push }, []int{1, 2}},
		{"Close's From", func(a *api.Auto) *int { return &a.Closes[0].From }, states},
		{"Close's Sym", func(a *api.Auto) *int { return &a.Closes[0].Sym }, ofKind(l, api.Closes)},
		{"Close's Top", func(a *api.Auto) *int { return &a.Closes[0].Top }, []int{0, 1, 2}},
		{"Close's To", func(a *api.Auto) *int { return &a.Closes[0].To }, states},
		{"Inner's From", func(a *api.Auto) *int { return &a.Inners[0].From }, states},
		{"Inner's Sym", func(a *api.Auto) *int { return &a.Inners[0].Sym }, ofKind(l, api.Plain)},
		{"Inner's To", func(a *api.Auto) *int { return &a.Inners[0].To }, states},
	}
}

// P301: each number of Init, Final and the rules, in bounds and out of them, in the first and in a later place.
func TestCheckFields(t *testing.T) {
	for _, f := range fields() {
		for _, n := range []int{math.MinInt, -3, -2, -1, 0, 1, 2, 3, 4, 5, 6, 7, 200, 10000, math.MaxInt} {
			e := api.BadAuto
			if slices.Contains(f.may, n) {
				e = api.OK
			}
			a := small()
			*f.of(&a) = n
			check(t, f.name, letters(), a, e)
			b := small()
			a.Init, a.Final = append(b.Init, a.Init...), append(b.Final, a.Final...)
			a.Opens, a.Closes, a.Inners = append(b.Opens, a.Opens...), append(b.Closes, a.Closes...), append(b.Inners, a.Inners...)
			check(t, f.name+" in the second place", letters(), a, e)
		}
	}
}

// P301: the bounds go with N and G, up to the most that they may be.
func TestCheckBoundsAtTheMost(t *testing.T) {
	most := func() api.Auto {
		a := small()
		a.N, a.G, a.Init, a.Final = 200, 10000, []int{199}, []int{199}
		a.Opens[0] = api.Open{From: 199, Sym: 2, To: 199, Push: 10000}
		a.Closes[0] = api.Close{From: 199, Sym: 1, Top: 10000, To: 199}
		a.Inners[0] = api.Inner{From: 199, Sym: 0, To: 199}
		return a
	}
	check(t, "the most", letters(), most(), api.OK)
	for _, f := range fields() {
		a := most()
		*f.of(&a)++
		check(t, f.name+" one above the most", letters(), a, api.BadAuto)
	}
	a := most()
	a.N--
	check(t, "a state less", letters(), a, api.BadAuto)
	a = most()
	a.G--
	check(t, "a mark less", letters(), a, api.BadAuto)
}

// quad is a rule as its numbers, in order of its fields.
type quad [4]int

// inOrder puts l in order by other means than a sort of the library, each once.
func inOrder(l []quad) []quad {
	var out []quad
	for _, q := range l {
		i := 0
		for i < len(out) && slices.Compare(out[i][:], q[:]) < 0 {
			i++
		}
		if i == len(out) || out[i] != q {
			out = slices.Insert(out, i, q)
		}
	}
	return out
}

// quads are the elements of a's lists, as numbers.
func quads(a api.Auto) [5][]quad {
	var out [5][]quad
	for _, s := range a.Init {
		out[0] = append(out[0], quad{s})
	}
	for _, s := range a.Final {
		out[1] = append(out[1], quad{s})
	}
	for _, r := range a.Opens {
		out[2] = append(out[2], quad{r.From, r.Sym, r.To, r.Push})
	}
	for _, r := range a.Closes {
		out[3] = append(out[3], quad{r.From, r.Sym, r.Top, r.To})
	}
	for _, r := range a.Inners {
		out[4] = append(out[4], quad{r.From, r.Sym, r.To})
	}
	return out
}

// isNorm fails unless b is Norm of a.
func isNorm(t *testing.T, a, b api.Auto) {
	t.Helper()
	if b.N != a.N || b.G != a.G {
		t.Fatalf("Norm of %v: %v", a, b)
	}
	was := quads(a)
	for i, got := range quads(b) {
		if want := inOrder(was[i]); !slices.Equal(got, want) {
			t.Fatalf("Norm of %v, list %d: %v, not %v", a, i, got, want)
		}
	}
}

// P301
func TestNorm(t *testing.T) {
	if got := auto.Norm(api.Auto{}); !same(got, api.Auto{}) {
		t.Errorf("Norm of nothing: %v", got)
	}
	a := api.Auto{
		N: 7, G: -2,
		Init:   []int{3, 1, 3, 2},
		Final:  []int{1, 1},
		Opens:  opens(1, 1, 1, 2, 1, 1, 2, 1, 1, 2, 1, 1, 2, 1, 1, 1, 1, 1, 1, 1, 1, 1, 2, 1),
		Closes: closes(2, 1, 1, 1, 1, 1, 1, 2, 1, 1, 2, 1, 1, 2, 1, 1, 1, 1, 1, 1, 1, 1, 1, 1),
		Inners: inners(1, 2, 1, 2, 1, 1, 1, 1, 2, 1, 1, 1, 1, 2, 1),
	}
	want := api.Auto{
		N: 7, G: -2,
		Init:   []int{1, 2, 3},
		Final:  []int{1},
		Opens:  opens(1, 1, 1, 1, 1, 1, 1, 2, 1, 1, 2, 1, 1, 2, 1, 1, 2, 1, 1, 1),
		Closes: closes(1, 1, 1, 1, 1, 1, 1, 2, 1, 1, 2, 1, 1, 2, 1, 1, 2, 1, 1, 1),
		Inners: inners(1, 1, 1, 1, 1, 2, 1, 2, 1, 2, 1, 1),
	}
	if got := auto.Norm(a); !same(got, want) {
		t.Errorf("Norm: %v, not %v", got, want)
	}
}

// P301, P3: machines of any numbers.
func TestNormAny(t *testing.T) {
	r := rand.New(rand.NewSource(1))
	few := []int{0, 1, 2, -1, math.MaxInt, math.MinInt}
	n := func() int { return few[r.Intn(len(few))] }
	for range 1000 {
		a := api.Auto{N: n(), G: n()}
		for range r.Intn(60) {
			a.Init, a.Final = append(a.Init, n()), append(a.Final, n(), n())
			a.Opens = append(a.Opens, api.Open{From: n(), Sym: n(), To: n(), Push: n()})
			a.Closes = append(a.Closes, api.Close{From: n(), Sym: n(), Top: n(), To: n()})
			a.Inners = append(a.Inners, api.Inner{From: n(), Sym: n(), To: n()})
		}
		b := auto.Norm(a)
		isNorm(t, a, b)
		if !same(auto.Norm(b), b) || !same(auto.Norm(a), b) {
			t.Fatalf("Norm of %v the second time, or of itself", a)
		}
	}
}

// ways is to how many different ends a may go from a state by a symbol (a closing one: with top on top).
func ways(a api.Auto, from, sym, top int) int {
	ends := map[[2]int]int{}
	for _, r := range a.Opens {
		if r.From == from && r.Sym == sym {
			ends[[2]int{r.To, r.Push}]++
		}
	}
	for _, r := range a.Closes {
		if r.From == from && r.Sym == sym && r.Top == top {
			ends[[2]int{r.To, -1}]++
		}
	}
	for _, r := range a.Inners {
		if r.From == from && r.Sym == sym {
			ends[[2]int{r.To, -2}]++
		}
	}
	return len(ends)
}

// least, most is to how many ends a may go at least, at most, wherever it is and whatever it reads.
func leastMost(l []api.Sym, a api.Auto) (int, int) {
	least, most := math.MaxInt, 0
	for from := range a.N {
		for sym, s := range l {
			for top := range a.G + 1 {
				if top == 0 || s.Kind == api.Closes {
					n := ways(a, from, sym, top)
					least, most = min(least, n), max(most, n)
				}
			}
		}
	}
	return least, most
}

// starts are the states of Init, each once.
func starts(a api.Auto) int {
	s := map[int]int{}
	for _, i := range a.Init {
		s[i]++
	}
	return len(s)
}

// singleWhole fails unless Single, Whole answer what they should, of a machine as it is and with each thing twice.
func singleWhole(t *testing.T, l []api.Sym, a api.Auto, single, whole bool) {
	t.Helper()
	twice := a
	twice.Init, twice.Final = slices.Repeat(a.Init, 2), slices.Repeat(a.Final, 2)
	twice.Opens, twice.Closes, twice.Inners = slices.Repeat(a.Opens, 2), slices.Repeat(a.Closes, 2), slices.Repeat(a.Inners, 2)
	for _, b := range []api.Auto{a, twice} {
		if got := auto.Single(l, b); got != single {
			t.Errorf("Single of %v: %v", b, got)
		}
		if got := auto.Whole(l, b); got != whole {
			t.Errorf("Whole of %v: %v", b, got)
		}
	}
}

// P302
func TestSingleWhole(t *testing.T) {
	plain, both := letters()[:1], letters()[1:3]
	loop := func() api.Auto {
		return api.Auto{
			N: 1, G: 1, Init: []int{0},
			Opens:  []api.Open{{From: 0, Sym: 1, To: 0, Push: 1}},
			Closes: []api.Close{{From: 0, Sym: 0, Top: 0, To: 0}, {From: 0, Sym: 0, Top: 1, To: 0}},
		}
	}
	singleWhole(t, plain, api.Auto{}, false, false)
	singleWhole(t, plain, api.Auto{G: 3}, false, false)
	singleWhole(t, plain, api.Auto{N: 1}, false, false)
	singleWhole(t, plain, api.Auto{N: 1, Init: []int{0}}, true, false)
	stay := []api.Inner{{From: 0, Sym: 0, To: 0}}
	singleWhole(t, plain, api.Auto{N: 1, Inners: stay}, false, false)
	singleWhole(t, plain, api.Auto{N: 1, Init: []int{0}, Inners: stay}, true, true)
	singleWhole(t, plain, api.Auto{N: 2, Init: []int{0}, Inners: stay}, true, false)
	singleWhole(t, plain, api.Auto{N: 1, G: 9, Init: []int{0}, Inners: stay}, true, true)
	singleWhole(t, both, loop(), true, true)
	a := loop()
	a.G = 2
	singleWhole(t, both, a, true, false)
	a.Closes = append(a.Closes, api.Close{From: 0, Sym: 0, Top: 2, To: 0})
	singleWhole(t, both, a, true, true)
	a = loop()
	a.Closes = a.Closes[1:]
	singleWhole(t, both, a, true, false)
	a = loop()
	a.Opens = nil
	singleWhole(t, both, a, true, false)
	a = loop()
	a.G, a.Opens = 0, nil
	a.Closes = a.Closes[:1]
	singleWhole(t, both[:1], a, true, true)
}

// P302: two ways differ by what they push, or by where they lead, or begin in two states.
func TestTwoWays(t *testing.T) {
	base := small()
	for _, change := range []func(a *api.Auto){
		func(a *api.Auto) { a.Opens = append(a.Opens, api.Open{From: 0, Sym: 2, To: 1, Push: 2}) },
		func(a *api.Auto) { a.Opens = append(a.Opens, api.Open{From: 0, Sym: 2, To: 0, Push: 1}) },
		func(a *api.Auto) { a.Closes = append(a.Closes, api.Close{From: 1, Sym: 1, Top: 1, To: 0}) },
		func(a *api.Auto) { a.Inners = append(a.Inners, api.Inner{From: 1, Sym: 0, To: 2}) },
		func(a *api.Auto) { a.Init = append(a.Init, 2) },
	} {
		a := copied(base)
		change(&a)
		singleWhole(t, letters(), base, true, false)
		singleWhole(t, letters(), a, false, false)
	}
	for _, change := range []func(a *api.Auto){
		func(a *api.Auto) { a.Opens = append(a.Opens, api.Open{From: 0, Sym: 4, To: 1, Push: 2}) },
		func(a *api.Auto) { a.Opens = append(a.Opens, api.Open{From: 1, Sym: 2, To: 1, Push: 2}) },
		func(a *api.Auto) { a.Closes = append(a.Closes, api.Close{From: 1, Sym: 1, Top: 0, To: 0}) },
		func(a *api.Auto) { a.Closes = append(a.Closes, api.Close{From: 1, Sym: 5, Top: 1, To: 0}) },
		func(a *api.Auto) { a.Inners = append(a.Inners, api.Inner{From: 1, Sym: 3, To: 2}) },
		func(a *api.Auto) { a.Final = append(a.Final, 0, 1) },
	} {
		a := copied(base)
		change(&a)
		singleWhole(t, letters(), a, true, false)
	}
}

// full is a machine that has a way wherever it is and whatever it reads.
func full(r *rand.Rand, l []api.Sym, n, g int) api.Auto {
	a := api.Auto{N: n, G: g, Init: []int{r.Intn(n)}}
	for from := range n {
		for sym, s := range l {
			switch s.Kind {
			case api.Opens:
				a.Opens = append(a.Opens, api.Open{From: from, Sym: sym, To: r.Intn(n), Push: 1 + r.Intn(g)})
			case api.Closes:
				for top := range g + 1 {
					a.Closes = append(a.Closes, api.Close{From: from, Sym: sym, Top: top, To: r.Intn(n)})
				}
			default:
				a.Inners = append(a.Inners, api.Inner{From: from, Sym: sym, To: r.Intn(n)})
			}
		}
	}
	return a
}

// P302: machines near to Single, to Whole: as they are, a rule less, some rules more.
func TestSingleWholeAny(t *testing.T) {
	r := rand.New(rand.NewSource(2))
	count := [4]int{}
	for range 3000 {
		l := letters()[r.Intn(3) : 4+r.Intn(3)]
		a := full(r, l, 1+r.Intn(3), 1+r.Intn(3))
		switch r.Intn(4) {
		case 0:
			i := r.Intn(len(a.Opens))
			a.Opens = slices.Delete(a.Opens, i, i+1)
		case 1:
			if len(a.Closes) > 0 {
				i := r.Intn(len(a.Closes))
				a.Closes = slices.Delete(a.Closes, i, i+1)
			}
		case 2:
			i := r.Intn(len(a.Inners))
			a.Inners = slices.Delete(a.Inners, i, i+1)
		}
		if r.Intn(2) == 0 {
			b := full(r, l, a.N, a.G)
			a.Init = append(a.Init, b.Init[:r.Intn(2)]...)
			a.Inners = append(a.Inners, b.Inners[:r.Intn(2)]...)
			a.Opens = append(a.Opens, b.Opens[:r.Intn(2)]...)
			a.Closes = append(a.Closes, b.Closes[:min(len(b.Closes), r.Intn(2))]...)
		}
		check(t, "near to Single and Whole", l, a, api.OK)
		least, most := leastMost(l, a)
		single, whole := starts(a) == 1 && most <= 1, starts(a) >= 1 && least >= 1
		singleWhole(t, l, a, single, whole)
		for i, is := range []bool{single && whole, single && !whole, !single && whole, !single && !whole} {
			if is {
				count[i]++
			}
		}
	}
	if slices.Min(count[:]) < 50 {
		t.Errorf("of some kind there are too few machines to tell: %v", count)
	}
}

// P302: where there are more cues than rules may be.
func TestWholeOfTheMost(t *testing.T) {
	l := letters()
	a := api.Auto{N: 200, G: 10000, Init: []int{0}}
	singleWhole(t, l, a, true, false)
	b := full(rand.New(rand.NewSource(3)), l, 9, 5500)
	check(t, "a great one", l, b, api.OK)
	if !auto.Single(l, b) || !auto.Whole(l, b) {
		t.Error("Single, Whole of a great machine")
	}
	b.Closes = b.Closes[:len(b.Closes)-1]
	if !auto.Single(l, b) || auto.Whole(l, b) {
		t.Error("Single, Whole of a great machine that lacks a rule")
	}
}

// room is l with spare room behind it, filled with v.
func room[T any](l []T, v T) []T {
	out := slices.Grow(slices.Clone(l), 8)
	for i := len(out); i < cap(out); i++ {
		out[:cap(out)][i] = v
	}
	return out
}

// spoil writes v over all of l, its spare room too.
func spoil[T any](l []T, v T) {
	l = l[:cap(l)]
	for i := range l {
		l[i] = v
	}
}

// roomy is a with spare room behind each list.
func roomy(a api.Auto) api.Auto {
	a.Init, a.Final = room(a.Init, 77), room(a.Final, 77)
	a.Opens, a.Closes, a.Inners = room(a.Opens, api.Open{From: 77}), room(a.Closes, api.Close{From: 77}), room(a.Inners, api.Inner{From: 77})
	return a
}

// toTheEnd is a with its spare room.
func toTheEnd(a api.Auto) api.Auto {
	a.Init, a.Final = a.Init[:cap(a.Init)], a.Final[:cap(a.Final)]
	a.Opens, a.Closes, a.Inners = a.Opens[:cap(a.Opens)], a.Closes[:cap(a.Closes)], a.Inners[:cap(a.Inners)]
	return a
}

// spoilAll writes over all lists of a.
func spoilAll(a api.Auto) {
	spoil(a.Init, -5)
	spoil(a.Final, -6)
	spoil(a.Opens, api.Open{From: -5})
	spoil(a.Closes, api.Close{From: -5})
	spoil(a.Inners, api.Inner{From: -5})
}

// P2: a machine that is handed in stays, in order already or not, and answers share nothing, with it or with one another.
func TestHandedInStays(t *testing.T) {
	r := rand.New(rand.NewSource(4))
	for range 200 {
		first := anyMachine(r, 1+r.Intn(4), r.Intn(3), r.Intn(30))
		for _, a := range []api.Auto{first, auto.Norm(first), auto.Trim(letters(), first), {}} {
			a, l := roomy(a), room(letters(), api.Sym{Name: "z", Kind: 9})
			was, wasL := copied(toTheEnd(a)), slices.Clone(l[:cap(l)])
			auto.Check(l, a)
			auto.Single(l, a)
			auto.Whole(l, a)
			norm, trim := auto.Norm(a), auto.Trim(l, a)
			wasNorm, wasTrim := copied(norm), copied(trim)
			spoilAll(auto.Norm(a))
			spoilAll(auto.Trim(l, a))
			if !same(toTheEnd(a), was) || !slices.Equal(l[:cap(l)], wasL) {
				t.Fatalf("what was handed in is changed: %v, %v", toTheEnd(a), l[:cap(l)])
			}
			spoilAll(a)
			if !same(norm, wasNorm) || !same(trim, wasTrim) {
				t.Fatalf("an answer hangs on another, or on what was handed in: %v, %v", norm, trim)
			}
		}
	}
}

// P2: the lists of one answer share nothing: written over one by one, the others stay.
func TestListsOfOneAnswer(t *testing.T) {
	a := small()
	a.Init, a.Final = []int{2, 0, 2, 1}, []int{2, 0, 2, 1}
	for _, b := range []api.Auto{auto.Norm(a), auto.Trim(letters(), a)} {
		was := copied(b)
		spoil(b.Init, -5)
		if !slices.Equal(b.Final, was.Final) {
			t.Errorf("Final hangs on Init: %v", b.Final)
		}
		spoil(b.Final, -6)
		if slices.Contains(b.Init, -6) {
			t.Errorf("Init hangs on Final: %v", b.Init)
		}
	}
}

// P1, P8: what may not be does no harm, and is not changed.
func TestWhatMayNotBe(t *testing.T) {
	r := rand.New(rand.NewSource(5))
	few := []int{0, 1, -1, 2, 200, 10001, math.MaxInt, math.MinInt, math.MaxInt - 1, math.MinInt + 1, 1 << 40}
	n := func() int { return few[r.Intn(len(few))] }
	symbols := [][]api.Sym{nil, letters(), make([]api.Sym, 50), {{Name: "\xff", Kind: -9}, {Name: "a", Kind: 2}, {Name: "a", Kind: 2}}}
	for range 3000 {
		a := api.Auto{N: n(), G: n()}
		for range r.Intn(9) {
			a.Init, a.Final = append(a.Init, n()), append(a.Final, n())
			a.Opens = append(a.Opens, api.Open{From: n(), Sym: n(), To: n(), Push: n()})
			a.Closes = append(a.Closes, api.Close{From: n(), Sym: n(), Top: n(), To: n()})
			a.Inners = append(a.Inners, api.Inner{From: n(), Sym: n(), To: n()})
		}
		was := copied(a)
		for _, l := range symbols {
			auto.Check(l, a)
			auto.Single(l, a)
			auto.Whole(l, a)
			auto.Trim(l, a)
		}
		auto.Norm(a)
		if !same(a, was) {
			t.Fatalf("what was handed in is changed: %v", a)
		}
	}
}
