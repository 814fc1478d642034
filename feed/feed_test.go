package feed_test

import (
	"math"
	"math/rand"
	"slices"
	"strings"
	"testing"

	"canopy/api"
	"canopy/comp"
	"canopy/dtd"
	"canopy/expr"
	"canopy/feed"
	"canopy/runs"
	"canopy/schema"
	"canopy/word"
)

// The example.
func TestExample(t *testing.T) {
	for _, a := range []api.Auto{{N: 1, Init: []int{0}, Final: []int{0}}, {N: 2, Init: []int{1, 0}, Final: []int{1}}} {
		if got, want := fed(t, letters(), a, 0), (told{is: true}); got != want {
			t.Errorf("P1401: of nothing: %v", got)
		}
	}
	for _, a := range []api.Auto{{}, {N: 1, Init: []int{0}}, {N: 1, Final: []int{0}}, {N: 2, Init: []int{0}, Final: []int{1}}} {
		if got, want := fed(t, letters(), a, 0), (told{}); got != want {
			t.Errorf("P1401: of nothing, not taken: %v", got)
		}
	}
}

// good is told where there is no error.
func good(deep int, is bool) told { return told{deep: deep, is: is} }

// bad is told where Write meets an error.
func bad(at int, e api.Errno, deep int) told { return told{at, e, deep, false, at, e} }

// late is told where Close alone meets one.
func late(at, deep int) told { return told{deep: deep, place: at, err: api.BadToken} }

// P1401
func TestTokens(t *testing.T) {
	const no = api.BadToken
	for s, want := range map[string]told{
		"":                           good(0, true),
		" \t\n":                      good(0, true),
		"x":                          good(0, true),
		"x a x":                      good(0, true),
		"x\na\tx ":                   good(0, true),
		"<a><b></a></c>":             good(0, true),
		" <a>\n<b>\t</a> </c> ":      good(0, true),
		"<a>x<b>x</a>x</c>x":         good(0, true),
		"abcdefgh<abcdefgh>abcdefgh": good(1, true),
		"a<a>a</a>a":                 good(0, true),
		// bytes that begin no token
		"?":       bad(0, no, 0),
		" ?":      bad(1, no, 0),
		">":       bad(0, no, 0),
		"/":       bad(0, no, 0),
		"A":       bad(0, no, 0),
		"`":       bad(0, no, 0),
		"{":       bad(0, no, 0),
		"0":       bad(0, no, 0),
		"\r":      bad(0, no, 0),
		"\v":      bad(0, no, 0),
		"\x00":    bad(0, no, 0),
		"\xff":    bad(0, no, 0),
		"\u00a0":  bad(0, no, 0),
		"x?":      bad(1, no, 0),
		"x\r\n":   bad(1, no, 0),
		"x/":      bad(1, no, 0),
		"x>":      bad(1, no, 0),
		"xA":      bad(1, no, 0),
		"x ?":     bad(2, no, 0),
		"<a>?":    bad(3, no, 1),
		"<a>>":    bad(3, no, 1),
		"<a></a>": good(0, true),
		// bytes by which a token is none
		"<>":             bad(0, no, 0),
		"</>":            bad(0, no, 0),
		"<//":            bad(0, no, 0),
		"<<":             bad(0, no, 0),
		"< ":             bad(0, no, 0),
		"<\n":            bad(0, no, 0),
		"</ ":            bad(0, no, 0),
		"</<":            bad(0, no, 0),
		"<a ":            bad(0, no, 0),
		"<a\t>":          bad(0, no, 0),
		"<a/":            bad(0, no, 0),
		"<a/>":           bad(0, no, 0),
		"</a/":           bad(0, no, 0),
		"<a<":            bad(0, no, 0),
		"<aA>":           bad(0, no, 0),
		"<a`":            bad(0, no, 0),
		"<a{":            bad(0, no, 0),
		"<A>":            bad(0, no, 0),
		"<1>":            bad(0, no, 0),
		"x <?":           bad(2, no, 0),
		"x </?":          bad(2, no, 0),
		"<a><a ":         bad(3, no, 1),
		"<abcdefghi":     bad(0, no, 0),
		"</abcdefghi":    bad(0, no, 0),
		"abcdefghi":      bad(0, no, 0),
		"x abcdefghi":    bad(2, no, 0),
		"<a>abcdefghi":   bad(3, no, 1),
		"x<abcdefghix>":  bad(1, no, 0),
		"abcdefghijklmn": bad(0, no, 0),
		// whole, of no symbol
		"<x>":        bad(0, no, 0),
		"<c>":        bad(0, no, 0),
		"</b>":       bad(0, no, 0),
		"</x>":       bad(0, no, 0),
		"<abcdefg>":  bad(0, no, 0),
		"b ":         bad(0, no, 0),
		"c<":         bad(0, no, 0),
		"xx ":        bad(0, no, 0),
		"xx?":        bad(0, no, 0),
		"x xx\n":     bad(2, no, 0),
		"x<a>b<a>":   bad(4, no, 1),
		"abcdefg ":   bad(0, no, 0),
		"xabcdefg x": bad(0, no, 0),
		// as long as nothing ends it, a token may be one
		"<q":          late(0, 0),
		"</q":         late(0, 0),
		"<":           late(0, 0),
		"</":          late(0, 0),
		"<a":          late(0, 0),
		"x </a":       late(2, 0),
		"<a> <a":      late(4, 1),
		"<abcdefgh":   late(0, 0),
		"</abcdefgh":  late(0, 0),
		"b":           late(0, 0),
		"x xx":        late(2, 0),
		"<a>abcdefg":  late(3, 1),
		"xbcdefgh":    late(0, 0),
		"<a></a><b>c": late(10, 1),
	} {
		if got := fed(t, letters(), all(), 9, s); got != want {
			t.Errorf("P1401: %q: %v, not %v", s, got, want)
		}
		if got := fed(t, letters(), all(), 9, strings.Split(s, "")...); got != want {
			t.Errorf("P1403: %q byte by byte: %v, not %v", s, got, want)
		}
		if w, at, e := feed.Tokens(letters(), s); at != want.place || e != want.err || e != api.OK && len(w) > 0 {
			t.Errorf("P1402: %q: %v, %d, %v", s, w, at, e)
		}
	}
}

// P1401: each byte, where a token begins, behind each part of one, and as what ends a plain one.
func TestEachByte(t *testing.T) {
	for b := range 256 {
		for _, front := range []string{"", " ", "x", "x ", "b", "<", "</", "<a", "</a", "<a>", "<abcdefgh", "</abcdefgh", "abcdefgh", "xbcdefgh", "<a></", "x<b><a", "<x", "</x"} {
			for _, back := range []string{"", ">", "a", " ", "/a>"} {
				s := front + string([]byte{byte(b)}) + back
				want := plainTold(letters(), 3, s, func([]int) bool { return true })
				if got := fed(t, letters(), all(), 3, s); got != want {
					t.Fatalf("P1401: %q: %v, not %v", s, got, want)
				}
			}
		}
	}
}

// P1401: deep.
func TestDepth(t *testing.T) {
	for _, c := range []struct {
		s    string
		deep int
		want told
	}{
		{"", 0, good(0, true)},
		{"", -1, good(0, true)},
		{"x", 0, good(0, true)},
		{"</a></a>", 0, good(0, true)},
		{"<a>", 0, bad(0, api.Depth, 0)},
		{"<a>", -1, bad(0, api.Depth, 0)},
		{"<a>", math.MinInt, bad(0, api.Depth, 0)},
		{"x <a>", 0, bad(2, api.Depth, 0)},
		{"</a> </c><b>", 0, bad(9, api.Depth, 0)},
		{"<a>", 1, good(1, true)},
		{"<a>", math.MaxInt, good(1, true)},
		{"<a><b>", 1, bad(3, api.Depth, 1)},
		{"<a></a><b>", 1, good(1, true)},
		{"<a></c><b></c><a></c>", 1, good(0, true)},
		{"<a></a></a></a><b>", 1, good(1, true)},
		{"</a></a></a><b><b>", 1, bad(15, api.Depth, 1)},
		{"<a><b><a>", 2, bad(6, api.Depth, 2)},
		{"<a><b></a><a><b>", 2, bad(13, api.Depth, 2)},
		{"<a><b></a></a><a><b>x<a>x", 2, bad(21, api.Depth, 2)},
		{"<a><b><abcdefgh>", 2, bad(6, api.Depth, 2)},
		// not ahead of its last byte, and behind that it has no symbol
		{"<a", 0, late(0, 0)},
		{"<a><a", 1, late(3, 1)},
		{"<a><a ", 1, bad(3, api.BadToken, 1)},
		{"<a><x>", 1, bad(3, api.BadToken, 1)},
		{"<a></x>", 1, bad(3, api.BadToken, 1)},
		{"<a>", 0, bad(0, api.Depth, 0)},
		{"b<a>", 0, bad(0, api.BadToken, 0)},
		{"x<a>?", 0, bad(1, api.Depth, 0)},
		{"x?<a>", 0, bad(1, api.BadToken, 0)},
	} {
		if got := fed(t, letters(), all(), c.deep, c.s); got != c.want {
			t.Errorf("P1401: %q, deep %d: %v, not %v", c.s, c.deep, got, c.want)
		}
		if got := fed(t, letters(), all(), c.deep, strings.Split(c.s, "")...); got != c.want {
			t.Errorf("P1403: %q, deep %d, byte by byte: %v, not %v", c.s, c.deep, got, c.want)
		}
	}
}

// P1401: the first error is for good, with its place in all that was written; what is written behind it is not read.
func TestForGood(t *testing.T) {
	for _, c := range []struct {
		front, s string
		want     told
	}{
		{"x <a> ", "?", bad(6, api.BadToken, 1)},
		{"x <a", "?", bad(2, api.BadToken, 0)},
		{"x x", "x ", bad(2, api.BadToken, 0)},
		{"<a><a><a", ">", bad(6, api.Depth, 2)},
		{"<a><a>\n", "<a>", bad(7, api.Depth, 2)},
	} {
		f := feed.New(letters(), all(), 2)
		if at, e := f.Write([]byte(c.front)); at != 0 || e != api.OK {
			t.Errorf("P1401: %q: %d, %v", c.front, at, e)
		}
		for _, s := range []string{c.s, "", "x", "?", "</a>", "<b>", "<", ">", "aaaaaaaaaaaa"} {
			if at, e := f.Write([]byte(s)); at != c.want.at || e != c.want.e || f.Deep() != c.want.deep {
				t.Errorf("P1401: %q behind %q: %d, %v, %d, not %v", s, c.front, at, e, f.Deep(), c.want)
			}
		}
		if is, at, e := f.Close(); is || at != c.want.place || e != c.want.err {
			t.Errorf("P1401: Close behind %q: %v, %d, %v", c.front, is, at, e)
		}
		closed(t, f, c.want.deep)
	}
}

// P1401: Deep, as a stream comes.
func TestDeep(t *testing.T) {
	f := feed.New(letters(), nested(), 3)
	for _, c := range []struct {
		s    string
		want int
	}{
		{"", 0}, {"x", 0}, {"<", 0}, {"a", 0}, {">", 1}, {"<b", 1}, {">", 2}, {"x", 2}, {" </", 2}, {"c>", 1}, {"<a><a>", 3},
		{"</a></a></a", 1}, {">", 0}, {"</a>", 0}, {"</a></a>", 0}, {"<a>", 1}, {"</c></c><b>", 1}, {"<b><b>", 3}, {"</a><b><b></a>", 3}, {"</a>", 3},
	} {
		f.Write([]byte(c.s))
		if got := f.Deep(); got != c.want {
			t.Errorf("P1401: Deep behind %q: %d, not %d", c.s, got, c.want)
		}
	}
}

// P1401, P1403: which words are taken.
func TestTaken(t *testing.T) {
	// 0 goes to 1 by <a>, and pushes 1 or 2; 2 takes what was pushed, and where nothing is left goes on to 3 by </a>
	pick := api.Auto{
		N: 5, G: 2, Init: []int{0}, Final: []int{3, 4},
		Opens:  opens(0, openA, 1, 1, 0, openA, 2, 2),
		Closes: closes(1, shutA, 1, 4, 2, shutA, 1, 4, 2, shutA, 2, 3, 1, shutC, 2, 3, 3, shutA, 0, 3, 3, shutC, 1, 3, 4, shutA, 2, 4),
		Inners: inners(1, x, 1, 2, plainA, 2),
	}
	machine(t, pick)
	for _, c := range []struct {
		a    api.Auto
		s    string
		want told
	}{
		{nested(), "x<a>x<a></a></a>x", good(0, true)},
		{nested(), "<a><a></a>", good(1, false)},
		{nested(), "<a></a></a>", good(0, false)},
		{nested(), "<a>a</a>", good(0, false)},
		{nested(), "<a></c>", good(0, false)},
		{nested(), "a", good(0, false)},
		{nested(), "a<a></a>", good(0, false)},
		{nested(), "<b></a>", good(0, false)},
		{pick, "", good(0, false)},
		{pick, "<a>", good(1, false)},
		{pick, "<a></a>", good(0, true)},
		{pick, "<a>x</a>", good(0, true)},
		{pick, "<a>a</a>", good(0, true)},
		{pick, "<a>x a</a>", good(0, false)},
		{pick, "<a>x</c>", good(0, false)},
		{pick, "<a>x</a></a>", good(0, false)},
		{pick, "<a>a</a></a></a>", good(0, true)},
		{pick, "<a>a</a></c>", good(0, false)},
	} {
		machine(t, c.a)
		if got := fed(t, letters(), c.a, 9, c.s); got != c.want {
			t.Errorf("P1403: %q: %v, not %v", c.s, got, c.want)
		}
	}
}

// P1403: all short words, by machines of few states.
func TestShortWords(t *testing.T) {
	r := rand.New(rand.NewSource(1))
	yes, no := 0, 0
	for range 12 {
		a := anyMachine(r, 1+r.Intn(3), r.Intn(3), 10+r.Intn(30))
		machine(t, a)
		var below func(w []int)
		below = func(w []int) {
			got := fed(t, letters(), a, 9, word.Text(letters(), w))
			if got.err != api.OK || got.is != taken(a, w) || got.is != runs.Takes(letters(), a, w) {
				t.Fatalf("P1403: %v of %v: %v", w, a, got)
			}
			if got.is {
				yes++
			} else {
				no++
			}
			for sym := range 8 {
				if len(w) < 4 {
					below(append(w, sym))
				}
			}
		}
		below(nil)
	}
	if yes < 1000 || no < 1000 {
		t.Errorf("too few to tell: %d, %d", yes, no)
	}
}

// P1401 to P1403, P3: all short texts of all bytes that matter, whole, byte by byte.
func TestShortTexts(t *testing.T) {
	l := []api.Sym{{Name: "x", Kind: api.Opens}, {Name: "x", Kind: api.Closes}, {Name: "x", Kind: api.Plain}}
	a := api.Auto{
		N: 2, G: 2, Init: []int{0}, Final: []int{0},
		Opens:  opens(0, 0, 0, 1, 1, 0, 0, 2),
		Closes: closes(0, 1, 1, 0, 0, 1, 2, 1, 0, 1, 0, 1),
		Inners: inners(0, 2, 1, 1, 2, 0),
	}
	takes := func(w []int) bool { return taken(a, w) }
	count := 0
	var below func(s string)
	below = func(s string) {
		for deep := range 2 {
			want := plainTold(l, deep, s, takes)
			if got := fed(t, l, a, deep, s); got != want {
				t.Fatalf("P1401: %q: %v, not %v", s, got, want)
			}
			if got := fed(t, l, a, deep, strings.Split(s, "")...); got != want {
				t.Fatalf("P1403: %q byte by byte: %v, not %v", s, got, want)
			}
		}
		tokens(t, l, s)
		count++
		for _, b := range "<>/x ?" {
			if len(s) < 6 {
				below(s + string(b))
			}
		}
	}
	below("")
	if count != 55987 {
		t.Error(count)
	}
}

// P1401 to P1403: any texts, cut anyhow: what each Write tells is told of what was written till then.
func TestCuts(t *testing.T) {
	r := rand.New(rand.NewSource(2))
	kinds := map[string]int{}
	for range 20000 {
		a := anyMachine(r, 1+r.Intn(5), r.Intn(4), 5+r.Intn(40))
		w := anyWord(r, r.Intn(9))
		if r.Intn(3) > 0 {
			w = walk(r, a, 12)
		}
		s, deep := spoilt(r, written(r, w), r.Intn(3)*r.Intn(2)), r.Intn(6)
		f := feed.New(letters(), a, deep)
		so := ""
		for _, p := range cuts(r, s) {
			so += p
			want := plainTold(letters(), deep, so, func([]int) bool { return false })
			if at, e := f.Write([]byte(p)); at != want.at || e != want.e || f.Deep() != want.deep {
				t.Fatalf("P1403: %q, %q behind it: %d, %v, %d, not %v", so[:len(so)-len(p)], p, at, e, f.Deep(), want)
			}
		}
		want := plainTold(letters(), deep, s, func(w []int) bool { return taken(a, w) })
		if is, at, e := f.Close(); is != want.is || at != want.place || e != want.err {
			t.Fatalf("P1403: %q, deep %d: %v, %d, %v, not %v", s, deep, is, at, e, want)
		}
		if got := fed(t, letters(), a, deep, s); got != want {
			t.Fatalf("P1403: %q, deep %d: %v, not %v", s, deep, got, want)
		}
		if want.err == api.OK && want.is != runs.Takes(letters(), a, plainly(letters(), deep, s, true).w) {
			t.Fatalf("P1403: %q: runs.Takes tells otherwise", s)
		}
		kinds[want.e.Error()]++
		kinds["behind "+want.err.Error()]++
		if want.is {
			kinds["taken"]++
		}
	}
	for _, k := range []string{"ok", "token", "depth", "behind ok", "behind token", "behind depth", "taken"} {
		if kinds[k] < 500 {
			t.Errorf("too few to tell: %v", kinds)
		}
	}
}

// P1403: machines of expressions, and of schemas.
func TestMade(t *testing.T) {
	l := letters()
	e, _, err := expr.Parse(l, "x* (<a[ (a | <b[ x* ]c>)* ]a> | x)* abcdefgh")
	if err != api.OK {
		t.Fatal(err)
	}
	a, err := comp.Make(l, e, api.MaxStates)
	if err != api.OK {
		t.Fatal(err)
	}
	for s, want := range map[string]bool{
		"abcdefgh": true, "x x<a></a>x abcdefgh": true, "<a>a<b>x</c>a</a>abcdefgh": true, "<a>a<b>x</c>a</a>": false, "<a>a<b>x</a>a</c>abcdefgh": false, "<a>a": false, "": false,
	} {
		if got := fed(t, l, a, 9, s); got.is != want || got.err != api.OK {
			t.Errorf("P1403: %q: %v", s, got)
		}
	}
	rules, _, err := schema.Parse("root page; element page = (text | page)*, end?; element end = empty;")
	if err != api.OK {
		t.Fatal(err)
	}
	a, err = dtd.Make(rules, api.MaxStates)
	if err != api.OK {
		t.Fatal(err)
	}
	l = schema.Syms(rules)
	for s, want := range map[string]bool{
		"<page>\n\ttext text <page></page>\n\t<end></end>\n</page>\n": true, "<page><end></end>text</page>": false, "<page><page></page>": false, "<page></page><page></page>": false, "text": false, "<page>" + strings.Repeat("<page>text", 300) + strings.Repeat("</page>", 301): true,
	} {
		w, _, _ := feed.Tokens(l, s)
		if got := fed(t, l, a, 301, s); got.is != want || got.err != api.OK || want != schema.Has(rules, w) {
			t.Errorf("P1403: %q: %v", s, got)
		}
	}
}

// P2: what was handed in is not changed, its spare room too, and not kept.
func TestHandedIn(t *testing.T) {
	r := rand.New(rand.NewSource(3))
	for range 300 {
		was := anyMachine(r, 1+r.Intn(4), r.Intn(3), 5+r.Intn(30))
		a := api.Auto{
			N: was.N, G: was.G, Init: room(was.Init, 77), Final: room(was.Final, 77),
			Opens: room(was.Opens, api.Open{From: 77}), Closes: room(was.Closes, api.Close{From: 77}), Inners: room(was.Inners, api.Inner{From: 77}),
		}
		l := room(letters(), api.Sym{Name: "q", Kind: 7})
		s := written(r, walk(r, was, 12))
		want := fed(t, letters(), was, 4, s)
		f := feed.New(l, a, 4)
		if !slices.Equal(l, letters()) || l[:cap(l)][len(l)].Kind != 7 || !slices.Equal(a.Init, was.Init) || !slices.Equal(a.Final, was.Final) || !slices.Equal(a.Opens, was.Opens) || !slices.Equal(a.Closes, was.Closes) || !slices.Equal(a.Inners, was.Inners) || a.Init[:cap(a.Init)][len(a.Init)] != 77 || a.Final[:cap(a.Final)][len(a.Final)] != 77 || a.Opens[:cap(a.Opens)][len(a.Opens)].From != 77 || a.Closes[:cap(a.Closes)][len(a.Closes)].From != 77 || a.Inners[:cap(a.Inners)][len(a.Inners)].From != 77 {
			t.Fatal("P2: what was handed to New is changed")
		}
		spoil(l, api.Sym{Name: "zzz", Kind: 1})
		spoil(a.Init, 0)
		spoil(a.Final, 0)
		spoil(a.Opens, api.Open{})
		spoil(a.Closes, api.Close{})
		spoil(a.Inners, api.Inner{})
		var got told
		for _, p := range cuts(r, s) {
			b := room([]byte(p), '?')
			got.at, got.e = f.Write(b)
			if string(b) != p || b[:cap(b)][len(b)] != '?' {
				t.Fatal("P2: what was handed to Write is changed")
			}
			spoil(b, '?')
		}
		got.deep = f.Deep()
		got.is, got.place, got.err = f.Close()
		if got != want {
			t.Fatalf("P2: %q: %v, not %v", s, got, want)
		}
	}
}

// P3, P7: feeds side by side, of one machine and of others, do not touch one another.
func TestSideBySide(t *testing.T) {
	r := rand.New(rand.NewSource(4))
	type play struct {
		f      *feed.Feed
		pieces []string
		want   told
	}
	for range 100 {
		var plays []play
		a := anyMachine(r, 3, 2, 30)
		for range 6 {
			if r.Intn(2) == 0 {
				a = anyMachine(r, 3, 2, 30)
			}
			s, deep := spoilt(r, written(r, walk(r, a, 12)), 1), 1+r.Intn(5)
			plays = append(plays, play{feed.New(letters(), a, deep), cuts(r, s), fed(t, letters(), a, deep, s)})
		}
		for i := 0; i < 200; i++ {
			p := &plays[r.Intn(len(plays))]
			if len(p.pieces) > 0 {
				p.f.Write([]byte(p.pieces[0]))
				p.pieces = p.pieces[1:]
			}
		}
		for _, p := range plays {
			for _, s := range p.pieces {
				p.f.Write([]byte(s))
			}
			got := told{deep: p.f.Deep()}
			got.at, got.e = p.f.Write(nil)
			got.is, got.place, got.err = p.f.Close()
			if got != p.want {
				t.Fatalf("P7: %v, not %v", got, p.want)
			}
		}
	}
}

// P1, P8: what is no machine, what are no symbols: every call ends.
func TestNoMachine(t *testing.T) {
	r := rand.New(rand.NewSource(5))
	odd := []int{0, 1, 2, 3, -1, -2, 63, 64, 199, 200, 255, 256, 257, 10001, math.MaxInt, math.MinInt}
	n := func() int { return odd[r.Intn(len(odd))] }
	names := []string{"", "a", "b", "abcdefgh", "abcdefghi", strings.Repeat("x", 5000), "A", "\x00", "<", ">", "a b"}
	for range 3000 {
		var l []api.Sym
		for range r.Intn(30) {
			l = append(l, api.Sym{Name: names[r.Intn(len(names))], Kind: r.Intn(6) - 1})
		}
		a := api.Auto{N: n(), G: n()}
		for range r.Intn(20) {
			a.Init, a.Final = append(a.Init, n()), append(a.Final, n())
			a.Opens = append(a.Opens, api.Open{From: n(), Sym: n(), To: n(), Push: n()})
			a.Closes = append(a.Closes, api.Close{From: n(), Sym: n(), Top: n(), To: n()})
			a.Inners = append(a.Inners, api.Inner{From: n(), Sym: n(), To: n()})
		}
		s := spoilt(r, written(r, anyWord(r, 20)), 1)
		f := feed.New(l, a, n())
		for _, p := range cuts(r, s) {
			f.Write([]byte(p))
		}
		f.Deep()
		f.Close()
		f.Write([]byte(s))
		feed.Tokens(l, s)
		feed.Tokens(nil, s)
	}
}
