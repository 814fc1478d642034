package expr_test

import (
	"math/rand"
	"regexp"
	"slices"
	"testing"

	"canopy/api"
	"canopy/expr"
)

// P503
func TestHas(t *testing.T) {
	for _, c := range []struct {
		s       string
		yes, no [][]int
	}{
		{"0", nil, [][]int{nil, {x}, {openA}}},
		{"1", [][]int{nil, {}}, [][]int{{x}, {0, 0}}},
		{"x", [][]int{{x}}, [][]int{nil, {a}, {x, x}, {-1}, {7}, {1 << 62}, {-1 << 63}, {1 << 32}}},
		{"<a>", [][]int{{openA}}, [][]int{nil, {shutA}, {openA, shutA}}},
		{"x a", [][]int{{x, a}}, [][]int{nil, {x}, {a}, {a, x}, {x, a, a}, {x, x, a}}},
		{"x a x", [][]int{{x, a, x}}, [][]int{{x, a}, {x, x, a}, {x, a, x, x}}},
		{"x 0", nil, [][]int{nil, {x}}},
		{"0 x", nil, [][]int{nil, {x}}},
		{"1 x 1", [][]int{{x}}, [][]int{nil, {x, x}}},
		{"x | a", [][]int{{x}, {a}}, [][]int{nil, {x, a}, {y}}},
		{"x | a | abcdefgh", [][]int{{x}, {a}, {y}}, [][]int{nil, {openA}, {x, y}}},
		{"0 | 1", [][]int{nil}, [][]int{{x}}},
		{"0 | 0", nil, [][]int{nil, {x}}},
		{"x | x a", [][]int{{x}, {x, a}}, [][]int{{a}, {x, a, a}}},
		{"( x | x a ) a", [][]int{{x, a}, {x, a, a}}, [][]int{{x}, {x, a, a, a}}},
		{"x*", [][]int{nil, {x}, {x, x}, {x, x, x, x, x}}, [][]int{{a}, {x, x, a}, {a, x}, {x, a, x}}},
		{"0*", [][]int{nil}, [][]int{{x}}},
		{"1*", [][]int{nil}, [][]int{{x}}},
		{"x** a", [][]int{{a}, {x, a}, {x, x, a}}, [][]int{nil, {x}}},
		{"( x a )*", [][]int{nil, {x, a}, {x, a, x, a}}, [][]int{{x}, {x, a, x}, {a, x}}},
		{"( x x )*", [][]int{nil, {x, x}, {x, x, x, x}}, [][]int{{x}, {x, x, x}}},
		{"<a[ x* ]a> | 1", [][]int{nil, {openA, shutA}, {openA, x, x, shutA}}, [][]int{{x}, {x, x}, {openA, x, x}}},
		{"( x* a* )*", [][]int{nil, {a}, {x}, {a, a, x, a, x, x}}, [][]int{{y}, {x, y, x}}},
		{"( 1 | x )* a", [][]int{{a}, {x, x, a}}, [][]int{nil, {x}}},
		{"<a[ x ]a>", [][]int{{openA, x, shutA}}, [][]int{nil, {openA, shutA}, {openA, x}, {x, shutA}, {openA, x, shutZ}, {openB, x, shutA}, {x}, {openA, x, x, shutA}, {openA, x, shutA, shutA}}},
		{"<a[ 1 ]zz>", [][]int{{openA, shutZ}}, [][]int{nil, {openA}, {shutZ}, {openA, x, shutZ}}},
		{"<a[ 0 ]zz>", nil, [][]int{nil, {openA, shutZ}}},
		{"<a[ x* ]a>*", [][]int{nil, {openA, shutA}, {openA, x, shutA, openA, x, x, shutA}}, [][]int{{openA, shutA, openA}, {openA, openA, shutA, shutA}, {x}}},
		{"<a[ ( <abcdefgh[ 1 ]zz> )* ]a>", [][]int{{openA, shutA}, {openA, openB, shutZ, openB, shutZ, shutA}}, [][]int{{openA, openB, shutA, shutZ}, {openA, openB, shutZ}}},
		{"</a> <a>", [][]int{{shutA, openA}}, [][]int{{openA, shutA}}},
		{"<a> <a[ x ]a> </a>", [][]int{{openA, openA, x, shutA, shutA}}, [][]int{{openA, x, shutA}}},
	} {
		e, _, err := expr.Parse(letters(), c.s)
		if err != api.OK {
			t.Fatalf("Parse of %q: %v", c.s, err)
		}
		for _, w := range c.yes {
			if !expr.Has(e, w) {
				t.Errorf("P503: %q has not %v", c.s, w)
			}
		}
		for _, w := range c.no {
			if expr.Has(e, w) {
				t.Errorf("P503: %q has %v", c.s, w)
			}
		}
	}
}

// P503, P3: any expressions, held against patterns, by words that they have and others.
func TestHasAny(t *testing.T) {
	r := rand.New(rand.NewSource(4))
	yes, no := 0, 0
	for range 6000 {
		e := anyExpr(r, 1+r.Intn(6), false)
		if expr.Check(letters(), e) != api.OK {
			continue
		}
		p := regexp.MustCompile(`\A(?:` + pattern(e) + `)\z`)
		for range 10 {
			w, _ := anyWordOf(r, e)
			for range r.Intn(3) {
				i := r.Intn(len(w) + 1)
				w = slices.Concat(w[:i], []int{r.Intn(len(texts))}, w[min(i+r.Intn(2), len(w)):])
			}
			got := expr.Has(e, w)
			if want := p.MatchString(lettered(w)); got != want || expr.Has(e, w) != got {
				t.Fatalf("P503: Has of %s, %v: %v, not %v", expr.Text(letters(), e), w, got, want)
			}
			if got {
				yes++
			} else {
				no++
			}
		}
	}
	if yes < 5000 || no < 5000 {
		t.Error(yes, no)
	}
}

// P503: each word of at most five symbols.
func TestHasShortWords(t *testing.T) {
	for _, s := range []string{"0", "1", "x", "x*", "( x a | a )* x", "<a[ x* ]a>", "( <a[ <a[ x ]a>* | x x ]a> )*", "( x | <a> )* </a>", "( x* a* )* x a", "( x ( a | 1 ) )* x*"} {
		e, _, err := expr.Parse(letters(), s)
		if err != api.OK {
			t.Fatalf("Parse of %q: %v", s, err)
		}
		p := regexp.MustCompile(`\A(?:` + pattern(e) + `)\z`)
		row := [][]int{nil}
		for range 6 {
			var next [][]int
			for _, w := range row {
				if got, want := expr.Has(e, w), p.MatchString(lettered(w)); got != want {
					t.Fatalf("P503: Has of %s, %v: %v, not %v", s, w, got, want)
				}
				for _, n := range []int{x, shutA, openA, a} {
					next = append(next, slices.Concat(w, []int{n}))
				}
			}
			row = next
		}
	}
}

// P503: numbers of symbols are held against each other whole.
func TestHasFarNumbers(t *testing.T) {
	for _, e := range []api.Expr{sym(0), star(sym(3)), nest(2, 1, void()), or(sym(19), void())} {
		for _, n := range []int{0, 3, 19} {
			for _, far := range []int{1 << 8, 1 << 16, 1 << 32, -1 << 63} {
				if expr.Has(e, []int{n + far}) {
					t.Errorf("P503: %v has %d", e, n+far)
				}
			}
		}
	}
	if !expr.Has(nest(18, 19, sym(17)), []int{18, 17, 19}) {
		t.Error("P503: a nest of the last of 20 symbols has not its word")
	}
}

// P503: words that are long, and expressions with many ways through them.
func TestHasLong(t *testing.T) {
	const n = 200000
	xs := slices.Repeat([]int{x}, n)
	ways := stars(1)
	for range 6 {
		ways = star(or(cat(ways, sym(x)), sym(x)))
	}
	nested := sym(x)
	for range 9 {
		nested = star(nest(openA, shutA, nested))
	}
	pair := []int{openA, openA, shutA, shutA}
	for i, c := range []struct {
		e    api.Expr
		w    []int
		want bool
	}{
		{stars(1), xs, true},
		{stars(19), xs, true},
		{stars(19), append(slices.Clone(xs), a), false},
		{star(cat(sym(x), sym(x))), xs, true},
		{star(cat(sym(x), sym(x))), xs[1:], false},
		{star(cat(sym(x), sym(x), sym(x))), xs, n%3 == 0},
		{star(wide(198)), xs, true},
		{cat(slices.Repeat([]api.Expr{stars(1)}, 99)...), xs, true},
		{cat(slices.Repeat([]api.Expr{or(sym(x), void())}, 49)...), xs[:49], true},
		{cat(slices.Repeat([]api.Expr{or(sym(x), void())}, 49)...), xs[:50], false},
		{cat(slices.Repeat([]api.Expr{sym(x)}, 199)...), xs[:199], true},
		{cat(slices.Repeat([]api.Expr{sym(x)}, 199)...), xs[:198], false},
		{ways, xs, true},
		{ways, append(slices.Clone(xs), a), false},
		{nested, slices.Repeat(pair, n/4), true},
		{nested, append(slices.Repeat(pair, n/4), openA), false},
		{nested, slices.Repeat([]int{openA}, n), false},
	} {
		if expr.Check(letters(), c.e) != api.OK {
			t.Fatalf("no expression: %d", i)
		}
		if got := expr.Has(c.e, c.w); got != c.want {
			t.Errorf("P503: Has %d: %v", i, got)
		}
	}
}
