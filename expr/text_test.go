package expr_test

import (
	"math/rand"
	"slices"
	"strings"
	"testing"

	"canopy/api"
	"canopy/expr"
)

// P502, P504: texts as Text writes them.
func TestText(t *testing.T) {
	ab := or(sym(x), sym(a))
	ba := cat(sym(a), sym(x))
	for s, e := range map[string]api.Expr{
		"0":                               none(),
		"1":                               void(),
		"x":                               sym(x),
		"</a>":                            sym(shutA),
		"<a>":                             sym(openA),
		"a":                               sym(a),
		"<abcdefgh>":                      sym(openB),
		"</zz>":                           sym(shutZ),
		"abcdefgh":                        sym(y),
		"<a[ 0 ]a>":                       nest(openA, shutA, none()),
		"<abcdefgh[ x ]zz>":               nest(openB, shutZ, sym(x)),
		"<a[ x | a ]zz>":                  nest(openA, shutZ, ab),
		"<a[ a x ]a>":                     nest(openA, shutA, ba),
		"<a[ x* ]a>":                      nest(openA, shutA, stars(1)),
		"<a[ <a[ 1 ]a> ]a>":               nest(openA, shutA, nest(openA, shutA, void())),
		"<a[ 1 ]a>*":                      star(nest(openA, shutA, void())),
		"<a[ 1 ]a> <a[ 1 ]a>":             cat(nest(openA, shutA, void()), nest(openA, shutA, void())),
		"<a[ 1 ]a> | 1":                   or(nest(openA, shutA, void()), void()),
		"x | a":                           ab,
		"a x":                             ba,
		"0 1 x":                           cat(none(), void(), sym(x)),
		"0 | 1 | x":                       or(none(), void(), sym(x)),
		"x*":                              stars(1),
		"x***":                            stars(3),
		"0* 1*":                           cat(star(none()), star(void())),
		"0* | 1*":                         or(star(none()), star(void())),
		"( x | a )*":                      star(ab),
		"( a x )*":                        star(ba),
		"( x | a )**":                     star(star(ab)),
		"( x | a ) ( x | a )":             cat(ab, ab),
		"( x | a ) | ( x | a )":           or(ab, ab),
		"( a x ) ( a x )":                 cat(ba, ba),
		"a x | a x":                       or(ba, ba),
		"( a x | x ) a":                   cat(or(ba, sym(x)), sym(a)),
		"( ( x | a ) | x ) | a":           or(or(ab, sym(x)), sym(a)),
		"x ( a ( x a ) )":                 cat(sym(x), cat(sym(a), cat(sym(x), sym(a)))),
		"( ( x | a ) a* )* | ( <a> | 0 )": or(star(cat(ab, star(sym(a)))), or(sym(openA), none())),
	} {
		if got := expr.Text(letters(), e); got != s {
			t.Errorf("P502: Text: %q, not %q", got, s)
		}
		if got, at, err := expr.Parse(letters(), s); !same(got, e) || at != 0 || err != api.OK {
			t.Errorf("P502: Parse of %q: %v, %d, %v", s, got, at, err)
		}
	}
}

// P502: texts as they may be read besides.
func TestParseLoosely(t *testing.T) {
	for s, want := range map[string]string{
		" x ":                       "x",
		"(x)":                       "x",
		"(((0)))":                   "0",
		"((x)*)*":                   "x**",
		"x * *":                     "x**",
		"x|a":                       "x | a",
		"(x|a)":                     "x | a",
		"x a|a x":                   "x a | a x",
		"(x a)|(a x)":               "x a | a x",
		"x(a)x":                     "x a x",
		"x(a|x)x":                   "x ( a | x ) x",
		"(x a)x":                    "( x a ) x",
		"x(a x)":                    "x ( a x )",
		"x|(a|x)":                   "x | ( a | x )",
		"0x1":                       "0 x 1",
		"x0a1":                      "x 0 a 1",
		"00":                        "0 0",
		"<a></a>":                   "<a> </a>",
		"x<a>x</a>x":                "x <a> x </a> x",
		"<a[x]a>":                   "<a[ x ]a>",
		"<a[(x)]zz>*x":              "<a[ x ]zz>* x",
		"<a[<abcdefgh[1]zz>]a>":     "<a[ <abcdefgh[ 1 ]zz> ]a>",
		"<a[((x|a))]a>":             "<a[ x | a ]a>",
		"<a[1]a><a[1]a>":            "<a[ 1 ]a> <a[ 1 ]a>",
		"x*a*":                      "x* a*",
		"x<a[1]a>|(x)*":             "x <a[ 1 ]a> | x*",
		"   (  x   |   a   )   *  ": "( x | a )*",
	} {
		e, at, err := expr.Parse(letters(), s)
		if got := expr.Text(letters(), e); got != want || at != 0 || err != api.OK {
			t.Errorf("P502: Parse of %q: %q, %d, %v, not %q", s, got, at, err, want)
		}
	}
}

// P502: a sign is no sign any more with a blank in it, and neither is a front of one.
func TestParseBadSigns(t *testing.T) {
	signs := []string{"<a>", "</a>", "<abcdefgh>", "</zz>", "<a[", "<abcdefgh["}
	for _, s := range signs {
		for i := 1; i < len(s); i++ {
			if 'a' <= s[i-1] && s[i-1] <= 'z' && 'a' <= s[i] && s[i] <= 'z' {
				continue
			}
			for _, broken := range []string{s[:i], s[:i] + " " + s[i:], s[:i] + "\t" + s[i:], s[:i] + "A" + s[i:]} {
				if _, at, err := expr.Parse(letters(), "x "+broken); at != 2 || err != api.BadText {
					t.Errorf("P502: Parse of x %s: %d, %v", broken, at, err)
				}
			}
		}
	}
	for _, shut := range []string{"]", "]>", "]a", "]a]", "] a>", "]a >", "]abcdefghi>", "]A>", "]/a>", "</a>]", "]a[", ""} {
		want := 4 + strings.Index(shut+"]", "]")
		if _, at, err := expr.Parse(letters(), "<a[x"+shut); at != want || err != api.BadText {
			t.Errorf("P502: Parse of <a[x%s: %d, %v", shut, at, err)
		}
	}
	for b := range 256 {
		s := "x  " + string([]byte{byte(b)})
		_, at, err := expr.Parse(letters(), s)
		want, place := api.BadText, 3
		switch {
		case strings.IndexByte("01xa* ", byte(b)) >= 0:
			want, place = api.OK, 0
		case 'a' <= b && b <= 'z':
			want = api.NoName
		case strings.IndexByte("(|", byte(b)) >= 0:
			place = 4
		}
		if at != place || err != want {
			t.Errorf("P502: Parse of %q: %d, %v, not %d, %v", s, at, err, place, want)
		}
	}
}

// P502: errors and their places.
func TestParseErrors(t *testing.T) {
	parens := func(n int, s string) string { return strings.Repeat("(", n) + s + strings.Repeat(")", n) }
	inNests := func(n int, s string) string { return strings.Repeat("<a[", n) + s + strings.Repeat("]a>", n) }
	for _, c := range []struct {
		s   string
		at  int
		err api.Errno
	}{
		{"", 0, api.BadText},
		{"   ", 3, api.BadText},
		{"|", 0, api.BadText},
		{"x|", 2, api.BadText},
		{"x | ", 4, api.BadText},
		{"x||a", 2, api.BadText},
		{"|x", 0, api.BadText},
		{" *", 1, api.BadText},
		{"x|*", 2, api.BadText},
		{"(*)", 1, api.BadText},
		{"()", 1, api.BadText},
		{"(", 1, api.BadText},
		{"(x", 2, api.BadText},
		{"(x ", 3, api.BadText},
		{"(x|)", 3, api.BadText},
		{"(x))", 3, api.BadText},
		{"x)", 1, api.BadText},
		{")", 0, api.BadText},
		{"]a>", 0, api.BadText},
		{"x]a>", 1, api.BadText},
		{"(x]a>", 2, api.BadText},
		{"(x]b>", 2, api.BadText},
		{"x]b>", 1, api.BadText},
		{"]b>", 0, api.BadText},
		{"<a[x)", 4, api.BadText},
		{"<a[(x]a>", 5, api.BadText},
		{"(<a[x)]a>", 5, api.BadText},
		{"<a[]a>", 3, api.BadText},
		{"<a[]b>", 3, api.BadText},
		{"<a[|x]a>", 3, api.BadText},
		{"<a[x|]a>", 5, api.BadText},
		{"<a[x|]b>", 5, api.BadText},
		{"<a[", 3, api.BadText},
		{"</a[x]a>", 0, api.BadText},
		{"<a[x]/a>", 4, api.BadText},
		{"abcdefghi", 0, api.BadText},
		{"x abcdefghi", 2, api.BadText},
		{"x abcdefghi z", 2, api.BadText},
		{"<abcdefghi>", 0, api.BadText},
		{"</abcdefghi>", 0, api.BadText},
		{"<abcdefghi[x]a>", 0, api.BadText},
		{"<a[x]abcdefghi>", 4, api.BadText},
		{"x\xff", 1, api.BadText},
		{"x\x00", 1, api.BadText},
		{"x ä", 2, api.BadText},
		{"x\u00a0", 1, api.BadText},
		{"xA", 1, api.BadText},
		{"x2", 1, api.BadText},

		{"b", 0, api.NoName},
		{"zz", 0, api.NoName},
		{"xa", 0, api.NoName},
		{"abcdefg", 0, api.NoName},
		{"<x>", 0, api.NoName},
		{"</x>", 0, api.NoName},
		{"<zz>", 0, api.NoName},
		{"</abcdefgh>", 0, api.NoName},
		{"x (b", 3, api.NoName},
		{"x|b", 2, api.NoName},
		{"x* <b>", 3, api.NoName},
		{"<zz[x]a>", 0, api.NoName},
		{"x <x[x]a>", 2, api.NoName},
		{"<a[x]x>", 4, api.NoName},
		{"<a[x]abcdefgh>", 4, api.NoName},
		{"<a[ x ]b> ?", 6, api.NoName},
		{"<b[ ?", 0, api.NoName},
		{"b ?", 0, api.NoName},
		{"? b", 0, api.BadText},
		{"x ? b", 2, api.BadText},

		{parens(41, "x"), 0, api.OK},
		{parens(42, "x"), 41, api.TooDeep},
		{parens(41, "<a>"), 0, api.OK},
		{parens(41, "<a[x]a>"), 41, api.TooDeep},
		{parens(40, "<a[x]a>"), 0, api.OK},
		{parens(40, "<a[(x)]a>"), 43, api.TooDeep},
		{parens(40, "<a[<a[x]a>]a>"), 43, api.TooDeep},
		{parens(40, "(x)|(x)"), 0, api.OK},
		{parens(40, "(x)|((x))"), 45, api.TooDeep},
		{strings.Repeat("(", 42), 41, api.TooDeep},
		{strings.Repeat("(", 41), 41, api.BadText},
		{strings.Repeat("(", 41) + "?", 41, api.BadText},
		{strings.Repeat("(", 41) + "<b[", 41, api.NoName},
		{strings.Repeat("(", 41) + "<b>", 41, api.NoName},
		{strings.Repeat("(", 41) + "<a[", 41, api.TooDeep},
		{strings.Repeat(" (", 42), 83, api.TooDeep},
		{inNests(41, "x"), 0, api.TooDeep},
		{inNests(42, "x"), 123, api.TooDeep},
		{strings.Repeat("(x)", 41), 0, api.OK},

		{inNests(19, "x"), 0, api.OK},
		{inNests(20, "x"), 0, api.TooDeep},
		{"x" + strings.Repeat("*", 19), 0, api.OK},
		{"x" + strings.Repeat("*", 20), 0, api.TooDeep},
		{"x" + strings.Repeat("*", 1999), 0, api.TooDeep},
		{"x" + strings.Repeat("*", 20) + "?", 21, api.BadText},
		{strings.Repeat("x ", 199), 0, api.OK},
		{strings.Repeat("x ", 200), 0, api.TooLong},
		{strings.Repeat("x|", 198) + "x", 0, api.OK},
		{strings.Repeat("x|", 199) + "x", 0, api.TooLong},
		{strings.Repeat("x ", 200) + "b", 400, api.NoName},
		{strings.Repeat("0", 2000), 0, api.TooLong},
		{strings.Repeat("0", 1980) + "0" + strings.Repeat("*", 19), 0, api.TooDeep},
		{"<a[<a>]a>", 0, api.Loose},
		{"x <a[x</a>]a>", 0, api.Loose},
		{"<a[<a[x]a><a>]a>", 0, api.Loose},
		{"<a><a[x]a></zz>", 0, api.OK},
		{"<a[<a>]a>)", 9, api.BadText},

		{strings.Repeat(" ", 1999) + "x", 0, api.OK},
		{strings.Repeat(" ", 2000), 2000, api.BadText},
		{strings.Repeat(" ", 2000) + "x", 0, api.TooLong},
		{"?" + strings.Repeat(" ", 2000), 0, api.TooLong},
		{strings.Repeat("(", 2001), 0, api.TooLong},
		{strings.Repeat("?", 1<<20), 0, api.TooLong},
	} {
		e, at, err := expr.Parse(letters(), c.s)
		if at != c.at || err != c.err || err != api.OK && !same(e, api.Expr{}) {
			t.Errorf("P502: Parse of %.60q: %v, %d, %v, not %d, %v", c.s, e, at, err, c.at, c.err)
		}
	}
}

// P502, P3: any texts, of signs and of what is none.
func TestParseAnyText(t *testing.T) {
	r := rand.New(rand.NewSource(2))
	signs := []string{" ", " ", "x", "x", "a", "<a[<a>", "b", "abcdefgh", "0", "1", "(", "(", ")", ")", "*", "|", "|", "<a[", "]a>", "<abcdefgh[", "]zz>", "<a>", "</a>", "<b[", "]b>", "<", ">", "[", "]", "/", "?"}
	count := map[api.Errno]int{}
	for i := range 100000 {
		var s string
		from := signs
		if i%2 == 0 {
			from = signs[:19]
		}
		for range r.Intn(12) {
			s += from[r.Intn(len(from))]
		}
		s = strings.Repeat("(", 39*r.Intn(2)) + s
		s += strings.Repeat(")", 39*r.Intn(2))
		e, at, err := expr.Parse(letters(), s)
		if f, place, want := read(s); !same(e, f) || at != place || err != want {
			t.Fatalf("P502: Parse of %q: %v, %d, %v, not %v, %d, %v", s, e, at, err, f, place, want)
		}
		if f, place, again := expr.Parse(letters(), s); !same(e, f) || at != place || err != again {
			t.Fatalf("P3: Parse of %q the second time: %v, %d, %v, not %v, %d, %v", s, f, place, again, e, at, err)
		}
		count[err]++
	}
	for _, err := range []api.Errno{api.OK, api.BadText, api.NoName, api.TooDeep, api.Loose} {
		if count[err] < 50 {
			t.Errorf("%v comes %d times", err, count[err])
		}
	}
}

// P502: each text of at most five signs.
func TestParseShortTexts(t *testing.T) {
	signs := []string{" ", "x", "0", "(", ")", "*", "|", "<a[", "]a>"}
	row := []string{""}
	for range 6 {
		var next []string
		for _, s := range row {
			e, at, err := expr.Parse(letters(), s)
			if f, place, want := read(s); !same(e, f) || at != place || err != want {
				t.Fatalf("P502: Parse of %q: %v, %d, %v, not %v, %d, %v", s, e, at, err, f, place, want)
			}
			for _, sign := range signs {
				next = append(next, s+sign)
			}
		}
		row = next
	}
}

// P502, P504: any expressions, written and read.
func TestThereAndBack(t *testing.T) {
	r := rand.New(rand.NewSource(3))
	fine := 0
	for range 20000 {
		e := anyExpr(r, 1+r.Intn(8), false)
		if expr.Check(letters(), e) != api.OK {
			continue
		}
		fine++
		s := expr.Text(letters(), e)
		if want := written(e, ""); s != want {
			t.Fatalf("P502: Text of %v: %q, not %q", e, s, want)
		}
		for _, s := range []string{s, strings.ReplaceAll(s, " ", "   "), "( " + s + " )", strings.ReplaceAll(s, "*", " * ")} {
			f, at, err := expr.Parse(letters(), s)
			if len(s) <= api.MaxText && (!same(f, e) || at != 0 || err != api.OK) || len(s) > api.MaxText && err != api.TooLong {
				t.Fatalf("P504: Parse of %q: %v, %d, %v", s, f, at, err)
			}
		}
	}
	if fine < 10000 {
		t.Error(fine)
	}
}

// P504: as many nodes, as deep as may be, and texts as long as may be.
func TestThereAndBackGreatest(t *testing.T) {
	names := []api.Sym{{Name: "abcdefgh", Kind: api.Opens}, {Name: "abcdefgh", Kind: api.Closes}, {Name: "z", Kind: api.Plain}}
	deep := sym(2)
	for i := range 18 {
		switch i % 4 {
		case 0:
			deep = nest(0, 1, deep)
		case 1:
			deep = or(deep, void())
		case 2:
			deep = cat(none(), deep)
		case 3:
			deep = star(deep)
		}
	}
	for _, e := range []api.Expr{
		or(slices.Repeat([]api.Expr{sym(2)}, 199)...),
		cat(slices.Repeat([]api.Expr{sym(0)}, 181)...),
		cat(slices.Repeat([]api.Expr{star(sym(2))}, 99)...),
		or(deep, deep, deep, deep, deep, deep),
	} {
		s := expr.Text(names, e)
		f, at, err := expr.Parse(names, s)
		if !same(f, e) || at != 0 || err != api.OK || s == "" {
			t.Errorf("P504: Parse of %.60q: %v, %d, %v", s, f, at, err)
		}
	}
	if n := len(expr.Text(names, cat(slices.Repeat([]api.Expr{sym(0)}, 181)...))); n != 1990 {
		t.Errorf("P502: a text of %d bytes", n)
	}
}
