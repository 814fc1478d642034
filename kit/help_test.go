package kit_test

import (
	"fmt"
	"math/rand"
	"slices"
	"strings"
	"testing"

	"canopy/api"
	"canopy/kit"
	"canopy/word"
)

// ask is a line, and what is to be answered.
type ask struct{ line, want string }

// all fails unless a kit answers each line, in order, as it should.
func all(t *testing.T, k *kit.Kit, asks ...ask) {
	t.Helper()
	for i, a := range asks {
		if got := k.Do(a.line); got != a.want {
			t.Errorf("P1501: %d: %s: %s, not %s", i, short(a.line), short(got), short(a.want))
		}
	}
}

// short is the front of s, as it would be quoted.
func short(s string) string { return fmt.Sprintf("%.80q", s) }

// begun is a new kit that has done these lines, each of which is well.
func begun(t *testing.T, lines ...string) *kit.Kit {
	t.Helper()
	k := kit.New()
	for _, line := range lines {
		if got := k.Do(line); !strings.HasPrefix(got, "ok") {
			t.Fatalf("%s: %s", short(line), short(got))
		}
	}
	return k
}

// letters are symbols of each kind, the kinds mixed.
func letters() []api.Sym {
	return []api.Sym{
		{Name: "x", Kind: api.Plain},
		{Name: "a", Kind: api.Closes},
		{Name: "a", Kind: api.Opens},
		{Name: "y", Kind: api.Plain},
		{Name: "b", Kind: api.Opens},
		{Name: "b", Kind: api.Closes},
	}
}

// setLetters is the line by which they are the symbols.
const setLetters = "syms x </a> <a> y <b> </b>"

// eachWord goes through all words of up to n symbols, shorter ones first.
func eachWord(l []api.Sym, n int, tell func(w []int)) {
	row := [][]int{nil}
	for long := range n + 1 {
		var longer [][]int
		for _, w := range row {
			tell(w)
			for sym := range l {
				if long < n {
					longer = append(longer, append(slices.Clone(w), sym))
				}
			}
		}
		row = longer
	}
}

// anyExpr is an expression's text, of so many levels at most; within a nest, or not.
func anyExpr(r *rand.Rand, deep int, nest bool) string {
	plain := []string{"x", "y", "x", "y", "0", "1"}
	loose := []string{"<a>", "</a>", "<b>", "</b>"}
	if deep == 0 {
		if n := r.Intn(8); !nest && n < 4 {
			return loose[n]
		}
		return plain[r.Intn(len(plain))]
	}
	part := func() string { return anyExpr(r, r.Intn(deep), nest) }
	switch r.Intn(4) {
	case 0:
		return "(" + part() + "|" + part() + ")"
	case 1:
		return "(" + part() + ")*"
	case 2:
		return "<" + string("ab"[r.Intn(2)]) + "[" + anyExpr(r, r.Intn(deep), true) + "]" + string("ab"[r.Intn(2)]) + ">"
	}
	return part() + " " + part()
}

// anyModel is a model's text, of so many levels at most.
func anyModel(r *rand.Rand, deep int) string {
	atoms := []string{"empty", "any", "text", "p", "q"}
	if deep == 0 {
		return atoms[r.Intn(len(atoms))]
	}
	part := func() string { return anyModel(r, r.Intn(deep)) }
	switch r.Intn(3) {
	case 0:
		return "(" + part() + "|" + part() + ")"
	case 1:
		return "(" + part() + ")" + string("*+?"[r.Intn(3)])
	}
	return "(" + part() + "," + part() + ")"
}

// anySchema is a schema's text, of two elements.
func anySchema(r *rand.Rand) string {
	return "root " + string("pq"[r.Intn(2)]) + ";element p=" + anyModel(r, r.Intn(3)) + ";element q=" + anyModel(r, r.Intn(3)) + ";"
}

// stream is w as a stream, with as few blanks as there must be, or with some.
func stream(r *rand.Rand, l []api.Sym, w []int) string {
	s := word.Text(l, w)
	if r.Intn(2) == 0 {
		s = strings.ReplaceAll(strings.ReplaceAll(s, "> ", ">"), " <", "<")
	}
	return strings.Repeat(" ", r.Intn(2)) + strings.ReplaceAll(s, " ", []string{" ", "\t", "  "}[r.Intn(3)]) + strings.Repeat("\t", r.Intn(2))
}

// isTaken is what takes answers of a word.
func isTaken(t *testing.T, k *kit.Kit, name string, l []api.Sym, w []int) bool {
	t.Helper()
	switch got := k.Do("takes " + name + " " + word.Text(l, w)); got {
	case "yes":
		return true
	case "no":
	default:
		t.Fatalf("takes %s %s: %s", name, word.Text(l, w), got)
	}
	return false
}
