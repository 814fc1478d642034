package dtd_test

import (
	"math/rand"
	"slices"
	"strings"
	"testing"

	"canopy/api"
	"canopy/schema"
)

func void() api.Model              { return api.Model{Kind: api.MVoid} }
func anything() api.Model          { return api.Model{Kind: api.MAny} }
func text() api.Model              { return api.Model{Kind: api.MText} }
func name(s string) api.Model      { return api.Model{Kind: api.MName, Name: s} }
func seq(l ...api.Model) api.Model { return api.Model{Kind: api.MSeq, L: l} }
func or(l ...api.Model) api.Model  { return api.Model{Kind: api.MOr, L: l} }
func star(m api.Model) api.Model   { return api.Model{Kind: api.MStar, L: []api.Model{m}} }
func plus(m api.Model) api.Model   { return api.Model{Kind: api.MPlus, L: []api.Model{m}} }
func opt(m api.Model) api.Model    { return api.Model{Kind: api.MOpt, L: []api.Model{m}} }
func a() api.Model                 { return name("a") }
func b() api.Model                 { return name("b") }
func alone(m api.Model) api.Schema { return of("a", m) }

// many are n models, all m.
func many(n int, m api.Model) []api.Model { return slices.Repeat([]api.Model{m}, n) }

// of is a schema of elements a, b, c .. with these models.
func of(root string, l ...api.Model) api.Schema {
	s := api.Schema{Root: root}
	for i, m := range l {
		s.L = append(s.L, api.Element{Name: "abcdefghijklmnopqrstuvwxyz"[i : i+1], M: m})
	}
	return s
}

// anyModel is one of at most deep levels.
func anyModel(r *rand.Rand, deep int, names []string) api.Model {
	kinds := 14
	if deep == 1 {
		kinds = 7
	}
	var l []api.Model
	switch k := r.Intn(kinds); k {
	case 0:
		return void()
	case 1:
		return anything()
	case 2, 3:
		return text()
	case 4, 5, 6:
		return name(names[r.Intn(len(names))])
	case 7, 8, 9:
		return api.Model{Kind: api.MStar + k - 7, L: []api.Model{anyModel(r, deep-1, names)}}
	default:
		for range 2 + r.Intn(3) {
			l = append(l, anyModel(r, deep-1, names))
		}
		if k < 12 {
			return or(l...)
		}
		return seq(l...)
	}
}

// anySchema is one of that many elements.
func anySchema(r *rand.Rand, elements, deep int) api.Schema {
	row := []string{"a", "b", "roots", "elemen", "tex", "anyempty", "zzzzzzzz", "z"}
	r.Shuffle(len(row), func(i, j int) { row[i], row[j] = row[j], row[i] })
	row = row[:elements]
	s := api.Schema{Root: row[r.Intn(len(row))]}
	for _, n := range row {
		s.L = append(s.L, api.Element{Name: n, M: anyModel(r, deep, row)})
	}
	return s
}

// some goes through n schemas of all sizes whose text may be read.
func some(seed int64, n int, tell func(r *rand.Rand, s api.Schema)) {
	r := rand.New(rand.NewSource(seed))
	for range n {
		s := anySchema(r, 1+r.Intn(1+r.Intn(api.MaxRows)), 1+r.Intn(7))
		if len(schema.Text(s)) <= api.MaxText {
			tell(r, s)
		}
	}
}

// parsed is what a text writes.
func parsed(t *testing.T, written string) api.Schema {
	t.Helper()
	s, _, err := schema.Parse(written)
	if err != api.OK {
		t.Fatalf("Parse of %q: %v", written, err)
	}
	return s
}

// same tells whether v and w are one machine; no list is an empty one.
func same(v, w api.Auto) bool {
	return v.N == w.N && v.G == w.G && slices.Equal(v.Init, w.Init) && slices.Equal(v.Final, w.Final) &&
		slices.Equal(v.Opens, w.Opens) && slices.Equal(v.Closes, w.Closes) && slices.Equal(v.Inners, w.Inners)
}

// place is where an element of a name stands in s.
func place(s api.Schema, name string) int {
	return slices.IndexFunc(s.L, func(e api.Element) bool { return e.Name == name })
}

// wordOf is a word of m, what repeats gone around up to twice; false: none was found, as it would be too deep, or long.
func wordOf(r *rand.Rand, s api.Schema, m api.Model, deep int) ([]int, bool) {
	parts := m.L
	switch m.Kind {
	case api.MText:
		return []int{2 * len(s.L)}, true
	case api.MName:
		i := place(s, m.Name)
		if deep == 0 {
			return nil, false
		}
		w, ok := wordOf(r, s, s.L[i].M, deep-1)
		return slices.Concat([]int{2 * i}, w, []int{2*i + 1}), ok
	case api.MAny:
		for range r.Intn(4) {
			parts = append(parts, []api.Model{text(), name(s.L[r.Intn(len(s.L))].Name)}[r.Intn(2)])
		}
	case api.MOr:
		return wordOf(r, s, m.L[r.Intn(len(m.L))], deep)
	case api.MStar, api.MPlus, api.MOpt:
		least, most := []int{0, 1, 0}[m.Kind-api.MStar], []int{2, 2, 1}[m.Kind-api.MStar]
		parts = slices.Repeat(m.L, least+r.Intn(most-least+1))
	}
	var w []int
	for _, part := range parts {
		v, ok := wordOf(r, s, part, deep)
		if !ok {
			return nil, false
		}
		w = append(w, v...)
	}
	return w, len(w) < 100
}

// changed is w with one symbol set, left out or put in, or two exchanged.
func changed(r *rand.Rand, w []int, syms int) []int {
	at, sym := r.Intn(len(w)+1), r.Intn(syms)
	w = slices.Clone(w)
	switch k := r.Intn(4); {
	case k == 0:
		return slices.Insert(w, at, sym)
	case at == len(w):
	case k == 1:
		return slices.Delete(w, at, at+1)
	case k == 2:
		w[at] = sym
	default:
		w[at], w[len(w)/2] = w[len(w)/2], w[at]
	}
	return w
}

// room is l with spare room behind it, filled with v.
func room[T any](l []T, v T) []T {
	out := slices.Grow(slices.Clone(l), 8)
	over(out[len(out):], v)
	return out
}

// over writes v over l, its spare room too.
func over[T any](l []T, v T) {
	l = l[:cap(l)]
	for i := range l {
		l[i] = v
	}
}

// junk is what stands in spare room.
func junk() api.Model { return api.Model{Kind: 77, Name: "junk", L: []api.Model{{Kind: 78}}} }

// roomy is s, each list of it with spare room behind it.
func roomy(s api.Schema) api.Schema {
	s.L = room(s.L, api.Element{Name: "junk", M: junk()})
	for i := range s.L {
		s.L[i].M = roomyModel(s.L[i].M)
	}
	return s
}

// roomyModel is m, each list of it with spare room behind it.
func roomyModel(m api.Model) api.Model {
	m.L = room(m.L, junk())
	for i := range m.L {
		m.L[i] = roomyModel(m.L[i])
	}
	return m
}

// sameRoom tells whether s and t are one schema, and what is in their spare room too.
func sameRoom(s, t api.Schema) bool {
	same := func(e, f api.Element) bool { return e.Name == f.Name && sameModelRoom(e.M, f.M) }
	return s.Root == t.Root && len(s.L) == len(t.L) && slices.EqualFunc(s.L[:cap(s.L)], t.L[:cap(t.L)], same)
}

// sameModelRoom tells whether m and n are one model, and what is in their spare room too.
func sameModelRoom(m, n api.Model) bool {
	return m.Kind == n.Kind && m.Name == n.Name && len(m.L) == len(n.L) && slices.EqualFunc(m.L[:cap(m.L)], n.L[:cap(n.L)], sameModelRoom)
}

// spoil writes over all lists of s, their spare room too.
func spoil(s api.Schema) {
	for _, e := range s.L[:cap(s.L)] {
		spoilModel(e.M)
	}
	over(s.L, api.Element{Name: "junk", M: junk()})
}

// spoilModel writes over all lists of m, their spare room too.
func spoilModel(m api.Model) {
	for _, part := range m.L[:cap(m.L)] {
		spoilModel(part)
	}
	over(m.L, junk())
}

// ruin writes over all lists of a machine, their spare room too.
func ruin(v api.Auto) {
	over(v.Init, -7)
	over(v.Final, -7)
	over(v.Opens, api.Open{From: -7, Sym: -7, To: -7, Push: -7})
	over(v.Closes, api.Close{From: -7, Sym: -7, Top: -7, To: -7})
	over(v.Inners, api.Inner{From: -7, Sym: -7, To: -7})
}

// wrongs are no schemas that a text tells: with lists that share parts, hold themselves, or are none, and of no kinds.
func wrongs() []api.Schema {
	around := make([]api.Model, 2)
	around[0] = api.Model{Kind: api.MSeq, L: around}
	around[1] = api.Model{Kind: api.MStar, L: around[:1]}
	line := make([]api.Model, 1)
	line[0] = api.Model{Kind: api.MOr, L: line}
	ways, voids, flat, deep := a(), void(), or(many(30000, a())...), a()
	for range 60 {
		ways, voids = or(ways, ways), seq(voids, voids)
	}
	for range 490 {
		deep = star(opt(deep))
	}
	out := []api.Schema{{}, {Root: "a"}, {L: []api.Element{{}}}, {L: make([]api.Element, 200)}, {Root: "a", L: make([]api.Element, 1<<20)}, {Root: strings.Repeat("a", 200000), L: of("a", a()).L}}
	for _, m := range []api.Model{
		around[0], around[1], line[0], ways, voids, star(ways), flat, deep, plus(seq(flat, flat)), or(many(200000, void())...), {}, {Kind: -1}, {Kind: 10}, {Kind: 1 << 40},
		{Kind: api.MSeq}, {Kind: api.MOr}, {Kind: api.MStar}, {Kind: api.MPlus}, {Kind: api.MOpt}, {Kind: api.MName}, name("no"), name(""), name("text"),
		{Kind: api.MVoid, Name: "a", L: []api.Model{a()}}, {Kind: api.MText, L: line}, {Kind: api.MStar, L: []api.Model{a(), text()}}, {Kind: api.MPlus, L: line}, seq(a()), or(text()), name(strings.Repeat("b", 1<<20)),
	} {
		out = append(out, alone(m), of("b", m, m), of("a", m, or(m, text()), star(m)), of("no", m), api.Schema{Root: "a", L: []api.Element{{Name: "a", M: m}, {Name: "a", M: m}}})
	}
	for _, n := range []string{"", "A", "abcdefghi", "a b", "\xff", "root", "text", "<a>"} {
		out = append(out, api.Schema{Root: n, L: []api.Element{{Name: n, M: plus(name(n))}, {Name: "b", M: text()}}})
	}
	out = append(out, api.Schema{Root: "a", L: slices.Repeat(alone(anything()).L, 13)}, api.Schema{Root: "a", L: slices.Repeat(alone(void()).L, 198)})
	return append(out, of("a", many(26, or(a(), text()))...), of("a", many(9, a())...))
}
