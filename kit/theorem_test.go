package kit_test

import (
	"fmt"
	"math/rand"
	"slices"
	"strings"
	"testing"

	"canopy/api"
	"canopy/expr"
	"canopy/feed"
	"canopy/fold"
	"canopy/kit"
	"canopy/schema"
	"canopy/word"
)

// long is how long the words are that are gone through, all of them, by those of each theorem.
const long = 3

// P1503, T1: words, expressions and schemas are read as they were written; so the machines are the same.
func TestThereAndBack(t *testing.T) {
	r := rand.New(rand.NewSource(1))
	for range 100 {
		k := begun(t, setLetters)
		s := anyExpr(r, r.Intn(4), false)
		e, _, _ := expr.Parse(letters(), s)
		if one, two := k.Do("expr p "+s), k.Do("expr q "+expr.Text(letters(), e)); one != two {
			t.Errorf("T1: %s: %s, written again: %s", s, one, two)
		}
		if again, _, _ := expr.Parse(letters(), expr.Text(letters(), e)); fmt.Sprint(again) != fmt.Sprint(e) {
			t.Errorf("T1: %s: %v, written again: %v", s, e, again)
		}
		s = anySchema(r)
		d, _, _ := schema.Parse(s)
		if one, two := k.Do("dtd p "+s), k.Do("dtd p "+schema.Text(d)); one != two || one[:2] != "ok" {
			t.Errorf("T1: %s: %s, written again: %s", s, one, two)
		}
		if again, _, _ := schema.Parse(schema.Text(d)); fmt.Sprint(again) != fmt.Sprint(d) {
			t.Errorf("T1: %s: %v, written again: %v", s, d, again)
		}
	}
	eachWord(letters(), long, func(w []int) {
		if v, _, e := word.Parse(letters(), word.Text(letters(), w)); e != api.OK || !slices.Equal(v, w) {
			t.Errorf("T1: %v: %v (%v)", w, v, e)
		}
	})
}

// P1503, T2: a machine takes just the words that the expression, the schema has.
func TestAsItSays(t *testing.T) {
	r := rand.New(rand.NewSource(2))
	for range 60 {
		k := begun(t, setLetters)
		s := anyExpr(r, 1+r.Intn(3), false)
		e, _, _ := expr.Parse(letters(), s)
		all(t, k, ask{"names", "ok"})
		k.Do("expr p " + s)
		eachWord(letters(), long, func(w []int) {
			if isTaken(t, k, "p", letters(), w) != expr.Has(e, w) {
				t.Fatalf("T2: %s: %s", s, word.Text(letters(), w))
			}
		})
		s = anySchema(r)
		d, _, _ := schema.Parse(s)
		k.Do("dtd p " + s)
		eachWord(schema.Syms(d), long+2, func(w []int) {
			if isTaken(t, k, "p", schema.Syms(d), w) != schema.Has(d, w) {
				t.Fatalf("T2: %s: %s", s, word.Text(schema.Syms(d), w))
			}
		})
	}
}

// some are n kits with machines p and q of any expressions.
func some(t *testing.T, seed int64, n int, tell func(k *kit.Kit)) {
	r := rand.New(rand.NewSource(seed))
	for range n {
		tell(begun(t, setLetters, "expr p "+anyExpr(r, 1+r.Intn(2), false), "expr q "+anyExpr(r, 1+r.Intn(2), false)))
	}
}

// P1503, T3: not, and, or, less and trim take just the words that should be.
func TestAlgebra(t *testing.T) {
	made := 0
	some(t, 3, 60, func(k *kit.Kit) {
		for _, c := range []struct {
			line string
			has  func(p, q bool) bool
		}{
			{"not m p", func(p, _ bool) bool { return !p }},
			{"and m p q", func(p, q bool) bool { return p && q }},
			{"or m p q", func(p, q bool) bool { return p || q }},
			{"less m p q", func(p, q bool) bool { return p && !q }},
			{"trim m p", func(p, _ bool) bool { return p }},
		} {
			if k.Do(c.line) == "budget" {
				continue
			}
			made++
			eachWord(letters(), long, func(w []int) {
				if isTaken(t, k, "m", letters(), w) != c.has(isTaken(t, k, "p", letters(), w), isTaken(t, k, "q", letters(), w)) {
					t.Fatalf("T3: %s: %s", c.line, word.Text(letters(), w))
				}
			})
		}
	})
	if made < 200 {
		t.Error("too few: ", made)
	}
}

// P1503, T4: a shortest word is told of, where there is one.
func TestWitnesses(t *testing.T) {
	told := 0
	some(t, 4, 200, func(k *kit.Kit) {
		shortest := func(is func(p, q bool) bool) int {
			n := long + 1
			eachWord(letters(), long, func(w []int) {
				if n > long && is(isTaken(t, k, "p", letters(), w), isTaken(t, k, "q", letters(), w)) {
					n = len(w)
				}
			})
			return n
		}
		for _, c := range []struct {
			line, front string
			is          func(p, q bool) bool
		}{
			{"word p", "ok", func(p, _ bool) bool { return p }},
			{"within p q", "no", func(p, q bool) bool { return p && !q }},
			{"within q p", "no", func(p, q bool) bool { return !p && q }},
			{"same p q", "no", func(p, q bool) bool { return p != q }},
		} {
			got, n := k.Do(c.line), shortest(c.is)
			var m int
			switch _, err := fmt.Sscanf(got, c.front+" %d", &m); {
			case got == "budget":
				continue
			case n <= long && (err != nil || m != n), n > long && err == nil && m <= long:
				t.Errorf("T4: %s: %s, not %d", c.line, got, n)
			case n > long && err != nil && got != "none" && got != "yes":
				t.Errorf("T4: %s: %s", c.line, got)
			}
			told++
		}
	})
	if told < 400 {
		t.Error("too few: ", told)
	}
}

// P1503, T5: of modules nothing is left that no word tells apart.
func TestSmall(t *testing.T) {
	// of the base and of module 1 two states each go on alike
	m := api.Mod{
		Plains: 1, Closings: 1,
		Of:    []int{0, 0, 1, 1, 2},
		Entry: []int{0, 2, 4},
		Final: []bool{true, true, false, false, false},
		In:    [][]int{{1}, {0}, {3}, {2}, {4}},
		Low:   [][]int{{0}, {1}, nil, nil, nil},
		Ret:   [][][]int{nil, nil, {{0, 1, 2, 3, 4}}, {{1, 0, 3, 2, 4}}, {{0, 0, 2, 2, 4}}},
	}
	s, e := fold.Small(m)
	if e != api.OK || len(s.Of) != 3 {
		t.Fatalf("T5: %v (%v)", s, e)
	}
	if again, e := fold.Small(s); e != api.OK || fmt.Sprint(again) != fmt.Sprint(s) {
		t.Errorf("T5: of itself: %v, not %v (%v)", again, s, e)
	}
	row := [][]api.Pair{nil}
	for range 6 {
		var longer [][]api.Pair
		for _, w := range row {
			if fold.Takes(m, w) != fold.Takes(s, w) {
				t.Fatalf("T5: %v", w)
			}
			for _, sym := range []api.Pair{{A: api.Plain}, {A: api.Closes}, {A: api.Opens}, {A: api.Opens, B: 1}} {
				longer = append(longer, append(slices.Clone(w), sym))
			}
		}
		row = longer
	}
}

// P1503, T6: a stream is taken as its word is, and tells the same however it is cut.
func TestStreams(t *testing.T) {
	r := rand.New(rand.NewSource(6))
	some(t, 6, 40, func(k *kit.Kit) {
		eachWord(letters(), long, func(w []int) {
			line := "feed p 999 " + stream(r, letters(), w)
			if is := isTaken(t, k, "p", letters(), w); k.Do(line) != map[bool]string{true: "yes", false: "no"}[is] {
				t.Fatalf("T6: %q: %s", line, k.Do(line))
			}
		})
	})
	a := api.Auto{N: 1, Init: []int{0}, Final: []int{0}, Inners: []api.Inner{{Sym: 0}}}
	for _, s := range []string{"x x x", "x xx", "x <a> x", "x <a", "x <b>", " x\n"} {
		for cut := range len(s) + 1 {
			whole, two := feed.New(letters(), a, 0), feed.New(letters(), a, 0)
			whole.Write([]byte(s))
			two.Write([]byte(s[:cut]))
			two.Write([]byte(s[cut:]))
			if one, other := fmt.Sprint(whole.Close()), fmt.Sprint(two.Close()); one != other {
				t.Errorf("T6: %q cut at %d: %s, not %s", s, cut, other, one)
			}
		}
	}
	if got := kit.Run(setLetters + "\nexpr p x*\nfeed p 0 " + strings.Repeat("x ", 1<<16)); got != "ok 6\nok 2 2\nyes\n" {
		t.Errorf("T6: %q", got)
	}
}
