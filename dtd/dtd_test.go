package dtd_test

import (
	"fmt"
	"math"
	"math/rand"
	"slices"
	"strings"
	"testing"

	"canopy/api"
	"canopy/auto"
	"canopy/dtd"
	"canopy/runs"
	"canopy/schema"
)

// made is the machine of s.
func made(t *testing.T, s api.Schema) api.Auto {
	t.Helper()
	m, err := dtd.Make(s, api.MaxStates)
	if err != api.OK {
		t.Fatalf("P901: %s: %v", schema.Text(s), err)
	}
	return m
}

// P901: of each kind of model, the rules behind those that lead into the root and out of it at once.
func TestMake(t *testing.T) {
	for _, c := range []struct{ s, want string }{
		{"root a; element a = empty;", "{3 1 [0] [1] [{0 0 2 1}] [{2 1 1 1}] []}"},
		{"root a; element a = empty*;", "{3 1 [0] [1] [{0 0 2 1}] [{2 1 1 1}] []}"},
		{"root a; element a = empty+;", "{3 1 [0] [1] [{0 0 2 1}] [{2 1 1 1}] []}"},
		{"root a; element a = empty?, (empty | empty);", "{3 1 [0] [1] [{0 0 2 1}] [{2 1 1 1}] []}"},
		{"root a; element a = text;", "{4 1 [0] [1] [{0 0 2 1}] [{3 1 1 1}] [{2 2 3}]}"},
		{"root a; element a = text?;", "{4 1 [0] [1] [{0 0 2 1}] [{2 1 1 1} {3 1 1 1}] [{2 2 3}]}"},
		{"root a; element a = text*;", "{4 1 [0] [1] [{0 0 2 1}] [{2 1 1 1} {3 1 1 1}] [{2 2 3} {3 2 3}]}"},
		{"root a; element a = text+;", "{4 1 [0] [1] [{0 0 2 1}] [{3 1 1 1}] [{2 2 3} {3 2 3}]}"},
		{"root a; element a = (text?)+;", "{4 1 [0] [1] [{0 0 2 1}] [{2 1 1 1} {3 1 1 1}] [{2 2 3} {3 2 3}]}"},
		{"root a; element a = text, text;", "{5 1 [0] [1] [{0 0 2 1}] [{4 1 1 1}] [{2 2 3} {3 2 4}]}"},
		{"root a; element a = text | text;", "{5 1 [0] [1] [{0 0 2 1}] [{3 1 1 1} {4 1 1 1}] [{2 2 3} {2 2 4}]}"},
		{"root a; element a = text?, text;", "{5 1 [0] [1] [{0 0 2 1}] [{4 1 1 1}] [{2 2 3} {2 2 4} {3 2 4}]}"},
		{"root a; element a = text, text?;", "{5 1 [0] [1] [{0 0 2 1}] [{3 1 1 1} {4 1 1 1}] [{2 2 3} {3 2 4}]}"},
		{"root a; element a = text, text?, text;", "{6 1 [0] [1] [{0 0 2 1}] [{5 1 1 1}] [{2 2 3} {3 2 4} {3 2 5} {4 2 5}]}"},
		{"root a; element a = (text, text)+;", "{5 1 [0] [1] [{0 0 2 1}] [{4 1 1 1}] [{2 2 3} {3 2 4} {4 2 3}]}"},
		{"root a; element a = (text, text)*;", "{5 1 [0] [1] [{0 0 2 1}] [{2 1 1 1} {4 1 1 1}] [{2 2 3} {3 2 4} {4 2 3}]}"},
		{"root a; element a = a;", "{4 2 [0] [1] [{0 0 2 1} {2 0 2 2}] [{3 1 1 1} {3 1 2 3}] []}"},
		{"root a; element a = a*;", "{4 2 [0] [1] [{0 0 2 1} {2 0 2 2} {3 0 2 2}] [{2 1 1 1} {2 1 2 3} {3 1 1 1} {3 1 2 3}] []}"},
		{"root a; element a = any;", "{5 2 [0] [1] [{0 0 2 1} {2 0 2 2} {3 0 2 2} {4 0 2 2}] [{2 1 1 1} {2 1 2 4} {3 1 1 1} {3 1 2 4} {4 1 1 1} {4 1 2 4}] [{2 2 3} {3 2 3} {4 2 3}]}"},
		{"root a; element a = b; element b = empty;", "{5 2 [0] [1] [{0 0 2 1} {2 2 4 2}] [{3 1 1 1} {4 3 2 3}] []}"},
		{"root b; element a = b; element b = empty;", "{5 2 [0] [1] [{0 2 4 1} {2 2 4 2}] [{4 3 1 1} {4 3 2 3}] []}"},
		{"root b; element a = empty; element b = a;", "{5 2 [0] [1] [{0 2 3 1} {3 0 2 2}] [{2 1 2 4} {4 3 1 1}] []}"},
		{"root b; element b = a, text, a; element a = b | text;", "{9 4 [0] [1] [{0 0 2 1} {2 2 6 2} {4 2 6 3} {6 0 2 4}] [{5 1 1 1} {5 1 4 7} {7 3 2 3} {7 3 3 5} {8 3 2 3} {8 3 3 5}] [{3 4 4} {6 4 8}]}"},
		{"root b; element b = text, any; element a = empty;", "{8 3 [0] [1] [{0 0 2 1} {3 0 2 2} {3 2 7 3} {4 0 2 2} {4 2 7 3} {5 0 2 2} {5 2 7 3} {6 0 2 2} {6 2 7 3}] [{3 1 1 1} {3 1 2 5} {4 1 1 1} {4 1 2 5} {5 1 1 1} {5 1 2 5} {6 1 1 1} {6 1 2 5} {7 3 3 6}] [{2 4 3} {3 4 4} {4 4 4} {5 4 4} {6 4 4}]}"},
	} {
		s := parsed(t, c.s)
		if got := fmt.Sprint(made(t, s)); got != c.want {
			t.Errorf("P901: %s: %s, not %s", c.s, got, c.want)
		}
	}
}

// P901: Budget is for what is more than most, or than 200 states; beside it there is nothing (P4).
func TestBudget(t *testing.T) {
	texts := func(n int) string { return strings.TrimSuffix(strings.Repeat("text,", n), ",") }
	anys := func(n int) string { return strings.TrimSuffix(strings.Repeat("any,", n), ",") }
	eight := "root a;"
	for _, n := range "abcdefgh" {
		eight += "element " + string(n) + "=any;"
	}
	for _, c := range []struct {
		s      string
		states int
	}{
		{"root a; element a = empty;", 3},
		{"root a; element a = empty | empty*;", 3},
		{"root a; element a = text;", 4},
		{"root a; element a = any;", 5},
		{"root a; element a = any; element b = any;", 10},
		{"root a; element b = (a | text)+; element a = empty;", 6},
		{eight, 2 + 8*10},
		{"root a; element a = " + texts(196) + ";", 199},
		{"root a; element a = " + texts(197) + ";", 200},
		{"root a; element a = " + texts(198) + ";", 201},
		{"root a; element a = " + texts(300) + ";", 303},
		{"root a; element a = " + anys(98) + ";", 199},
		{"root a; element a = " + anys(98) + ", a;", 200},
		{"root a; element a = " + anys(99) + ";", 201},
		{"root a; element a = " + anys(65) + "; element b = empty;", 199},
		{"root a; element a = " + anys(66) + "; element b = empty;", 202},
		{"root a; element a = " + texts(98) + "; element b = " + texts(98) + ";", 200},
		{"root a; element a = " + texts(98) + "; element b = " + texts(98) + "; element c = empty;", 201},
	} {
		s := parsed(t, c.s)
		for _, most := range []int{math.MinInt, -1, 0, 1, 2, 3, c.states - 2, c.states - 1, c.states, c.states + 1, 199, 200, 201, 1000, math.MaxInt} {
			want := api.OK
			if c.states > most || c.states > 200 {
				want = api.Budget
			}
			m, err := dtd.Make(s, most)
			switch {
			case err != want:
				t.Errorf("P901: %.50s of %d states, at most %d: %v", c.s, c.states, most, err)
			case err == api.OK && m.N != c.states:
				t.Errorf("P901: %.50s: %d states, not %d", c.s, m.N, c.states)
			case err != api.OK && !same(m, api.Auto{}):
				t.Errorf("P4: %.50s: %v beside %v", c.s, m, err)
			}
		}
	}
}

// P901: any schemas, held against what is made of nets; it is a machine, normed.
func TestAny(t *testing.T) {
	yes, no := 0, 0
	some(1, 5000, func(r *rand.Rand, s api.Schema) {
		if r.Intn(10) == 0 {
			for i, e := range s.L {
				s.L[i].M = star(seq(many(2+r.Intn(9), e.M)...))
			}
		}
		written, want := schema.Text(s), plainMachine(s)
		if want.N > api.MaxStates {
			if m, err := dtd.Make(s, math.MaxInt); err != api.Budget || !same(m, api.Auto{}) {
				t.Fatalf("P901: %s: %v (%v)", written, m, err)
			}
			no++
			return
		}
		yes++
		got, err := dtd.Make(s, want.N)
		if err != api.OK || !same(got, want) {
			t.Fatalf("P901: %s: %v (%v), not %v", written, got, err, want)
		}
		if auto.Check(schema.Syms(s), got) != api.OK || !same(auto.Norm(got), got) {
			t.Fatalf("P901: %s: %v is no machine that is normed", written, got)
		}
		if again, err := dtd.Make(s, want.N+r.Intn(500)); err != api.OK || !same(again, got) {
			t.Fatalf("P3: %s: %v, then %v (%v)", written, got, again, err)
		}
		if m, err := dtd.Make(s, want.N-1-r.Intn(3)); err != api.Budget || !same(m, api.Auto{}) {
			t.Fatalf("P901: %s: %v (%v) of less states", written, m, err)
		}
	})
	if yes < 3000 || no < 50 {
		t.Error(yes, no)
	}
}

// P901: as many rules as there may be.
func TestGreatest(t *testing.T) {
	for i, c := range []struct {
		s                     api.Schema
		states, marks         int
		opens, closes, inners int
	}{
		{alone(or(many(197, text())...)), 200, 1, 1, 197, 197},
		{alone(star(or(many(197, text())...))), 200, 1, 1, 198, 198 * 197},
		{alone(star(or(many(197, a())...))), 200, 198, 1 + 198*197, 198 * 198, 0},
		{alone(plus(or(many(197, a())...))), 200, 198, 1 + 198*197, 197 * 198, 0},
		{alone(seq(many(197, a())...)), 200, 198, 1 + 197, 198, 0},
		{alone(seq(many(197, opt(a()))...)), 200, 198, 1 + 197*198/2, 198 * 198, 0},
		{of("b", seq(many(98, b())...), star(or(many(98, a())...))), 200, 197, 1 + 98 + 99*98, 98 + 99*99, 0},
		{of("h", many(8, anything())...), 82, 65, 1 + 8*10*8, 8*10*8 + 10, 8 * 10},
		{alone(seq(many(98, anything())...)), 199, 99, 1 + 98 + 98*99, 197 * 99, 98 + 98*99},
	} {
		m := made(t, c.s)
		if m.N != c.states || m.G != c.marks || len(m.Opens) != c.opens || len(m.Closes) != c.closes || len(m.Inners) != c.inners {
			t.Errorf("P901: %d: %d states, %d marks, %d, %d, %d rules", i, m.N, m.G, len(m.Opens), len(m.Closes), len(m.Inners))
		}
		if auto.Check(schema.Syms(c.s), m) != api.OK || !same(m, plainMachine(c.s)) {
			t.Errorf("P901: %d: not what it says", i)
		}
	}
}

// P901: models within as many parentheses as there may be, each of which may be read again.
func TestDeep(t *testing.T) {
	for _, often := range []string{"*", "+", "?", "|empty", ",empty"} {
		inside := strings.TrimSuffix(strings.Repeat("a|", 150), "|")
		for range api.MaxDeep {
			inside = "(" + inside + ")" + often
		}
		s := parsed(t, "root a; element a = "+inside+";")
		if m := made(t, s); !same(m, plainMachine(s)) {
			t.Errorf("P901: within %s", often)
		}
	}
}

// P902, T2: words that the schema has, such as are changed, and any.
func TestWords(t *testing.T) {
	yes, deep, no, near := 0, 0, 0, 0
	some(2, 4000, func(r *rand.Rand, s api.Schema) {
		l := schema.Syms(s)
		m, err := dtd.Make(s, api.MaxStates)
		if err != api.OK {
			return
		}
		for range 10 {
			w := make([]int, r.Intn(5))
			for i := range w {
				w[i] = r.Intn(len(l))
			}
			v, ok := wordOf(r, s, name(s.Root), 1+r.Intn(8))
			if ok {
				if !runs.Takes(l, m, v) {
					t.Fatalf("P902: %s, %v: not taken", schema.Text(s), v)
				}
				w = changed(r, v, len(l))
			}
			want := schema.Has(s, w)
			if got := runs.Takes(l, m, w); got != want {
				t.Fatalf("P902: %s, %v: %v", schema.Text(s), w, got)
			}
			switch {
			case ok && len(v) > 10:
				deep++
			case want:
				yes++
			case ok:
				near++
			default:
				no++
			}
		}
	})
	if yes < 1000 || deep < 1000 || no < 4000 || near < 4000 {
		t.Error(yes, deep, no, near)
	}
}

// P902, T2: all words of up to six symbols.
func TestShortWords(t *testing.T) {
	for _, written := range []string{
		"root a; element a = any; element b = any;",
		"root a; element a = a?, b; element b = text*;",
		"root b; element a = b | empty; element b = a*, text?;",
		"root a; element a = (a | text)+ | empty; element b = b;",
		"root a; element a = (b?, text?)*; element b = (a | empty), empty;",
		"root b; element a = text, any; element b = any, text | a+;",
		"root a; element a = a; element b = empty;",
		"root b; element a = a, a | b; element b = empty | a;",
	} {
		s := parsed(t, written)
		l, m, row := schema.Syms(s), made(t, s), [][]int{nil}
		for n := range 7 {
			var longer [][]int
			for _, w := range row {
				if got := runs.Takes(l, m, w); got != schema.Has(s, w) {
					t.Fatalf("P902: %s, %v: %v", written, w, got)
				}
				for k := range 5 {
					if n < 6 {
						longer = append(longer, append(slices.Clone(w), k))
					}
				}
			}
			row = longer
		}
	}
}

// P901, P902: as many elements as there may be, each of them the root once.
func TestEightElements(t *testing.T) {
	var l []api.Model
	for i := range api.MaxRows {
		l = append(l, or(seq(text(), opt(name("abcdefgh"[(i+1)%8:][:1]))), star(name("abcdefgh"[i:][:1]))))
	}
	for root := range api.MaxRows {
		s := of("abcdefgh"[root:][:1], l...)
		syms, m := schema.Syms(s), made(t, s)
		var w []int
		for i := range 10 {
			w = append(w, 2*((root+i)%8), 16)
		}
		for i := range 10 {
			w = append(w, 2*((root+9-i)%8)+1)
		}
		if !runs.Takes(syms, m, w) {
			t.Errorf("P902: root %d", root)
		}
		for i := range w {
			for k := range 17 {
				v := slices.Clone(w)
				v[i] = k
				if k != w[i] && runs.Takes(syms, m, v) {
					t.Errorf("P902: root %d, %d at %d", root, k, i)
				}
			}
		}
	}
}

// P2: what is handed in stays, its spare room too, and is not kept.
func TestHandedIn(t *testing.T) {
	some(3, 500, func(r *rand.Rand, s api.Schema) {
		f, g := roomy(s), roomy(s)
		got, _ := dtd.Make(f, api.MaxStates)
		if !sameRoom(f, g) {
			t.Fatalf("P2: %v is %v now", g, f)
		}
		spoil(f)
		if want, _ := dtd.Make(s, api.MaxStates); !same(got, want) {
			t.Fatalf("P2: %v is %v, once what was handed in is written over", want, got)
		}
	})
}

// P2: what is answered is new, its spare room too.
func TestAnswered(t *testing.T) {
	some(4, 500, func(r *rand.Rand, s api.Schema) {
		f := roomy(s)
		asked := func() api.Auto {
			m, _ := dtd.Make(f, api.MaxStates)
			return m
		}
		want, spoilt, again := asked(), asked(), asked()
		ruin(spoilt)
		if !same(again, want) || !same(asked(), want) {
			t.Fatalf("P2: %v, after what was answered is written over", again)
		}
		if !sameRoom(f, roomy(s)) {
			t.Fatalf("P2: %v is %v now", s, f)
		}
		over(want.Init, -7)
		if !slices.Equal(want.Final[:cap(want.Final)], again.Final[:cap(want.Final)]) {
			t.Fatal("P2: two lists of one answer share room")
		}
	})
}

// P1, P2, P8: whatever is handed in, each call ends, and leaves it as it was.
func TestWrong(t *testing.T) {
	for i, s := range wrongs() {
		root, elements := s.Root, slices.Clone(s.L)
		for _, most := range []int{math.MinInt, 0, 3, 100, 200, math.MaxInt} {
			m, err := dtd.Make(s, most)
			if err != api.OK && !same(m, api.Auto{}) {
				t.Errorf("P4: %d: %v beside %v", i, m, err)
			}
			if n, again := dtd.Make(s, most); err != again || !same(m, n) {
				t.Errorf("P3: %d: %v (%v), then %v (%v)", i, m, err, n, again)
			}
		}
		changed := func(e, f api.Element) bool {
			return e.Name == f.Name && e.M.Kind == f.M.Kind && e.M.Name == f.M.Name && len(e.M.L) == len(f.M.L)
		}
		if s.Root != root || !slices.EqualFunc(s.L, elements, changed) {
			t.Errorf("P2: %d is changed", i)
		}
	}
}

// P901: a schema that is made by hand may have more models than one that is read.
func TestGreat(t *testing.T) {
	s := alone(seq(or(many(3000, void())...), text(), seq(many(3000, opt(void()))...)))
	if got, want := fmt.Sprint(made(t, s)), fmt.Sprint(made(t, alone(text()))); got != want {
		t.Errorf("P901: %s, not %s", got, want)
	}
}
