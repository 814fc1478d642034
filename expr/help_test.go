package expr_test

import (
	"math/rand"
	"regexp"
	"slices"
	"strings"

	"canopy/api"
	"canopy/expr"
)

// Places of letters' symbols.
const (
	x = iota
	shutA
	openA
	a
	openB
	shutZ
	y
)

// letters are symbols of each kind, the kinds mixed; a name stands in more than one kind, and one is as long as may be.
func letters() []api.Sym {
	return []api.Sym{
		{Name: "x", Kind: api.Plain},
		{Name: "a", Kind: api.Closes},
		{Name: "a", Kind: api.Opens},
		{Name: "a", Kind: api.Plain},
		{Name: "abcdefgh", Kind: api.Opens},
		{Name: "zz", Kind: api.Closes},
		{Name: "abcdefgh", Kind: api.Plain},
	}
}

// texts are those of letters.
var texts = []string{"x", "</a>", "<a>", "a", "<abcdefgh>", "</zz>", "abcdefgh"}

func none() api.Expr             { return api.Expr{Kind: api.ENone} }
func void() api.Expr             { return api.Expr{Kind: api.EVoid} }
func sym(n int) api.Expr         { return api.Expr{Kind: api.ESym, Sym: n} }
func cat(l ...api.Expr) api.Expr { return api.Expr{Kind: api.ECat, L: l} }
func or(l ...api.Expr) api.Expr  { return api.Expr{Kind: api.EOr, L: l} }
func star(e api.Expr) api.Expr   { return api.Expr{Kind: api.EStar, L: []api.Expr{e}} }
func nest(from, to int, e api.Expr) api.Expr {
	return api.Expr{Kind: api.ENest, Sym: from, End: to, L: []api.Expr{e}}
}

// stars is sym(x) with n stars about it.
func stars(n int) api.Expr {
	e := sym(x)
	for range n {
		e = star(e)
	}
	return e
}

// wide is an or of n symbols.
func wide(n int) api.Expr { return or(slices.Repeat([]api.Expr{sym(x)}, n)...) }

// same tells whether two expressions are one; no list is an empty one.
func same(e, f api.Expr) bool {
	return e.Kind == f.Kind && e.Sym == f.Sym && e.End == f.End && slices.EqualFunc(e.L, f.L, same)
}

// copied is an expression that shares nothing with e.
func copied(e api.Expr) api.Expr {
	e.L = slices.Clone(e.L)
	for i := range e.L {
		e.L[i] = copied(e.L[i])
	}
	return e
}

// anyExpr is one over letters, of at most deep levels; in a nest, or not.
func anyExpr(r *rand.Rand, deep int, nested bool) api.Expr {
	kinds := 10
	if deep == 1 {
		kinds = 4
	}
	var l []api.Expr
	switch k := r.Intn(kinds); k {
	case 0:
		return []api.Expr{none(), void()}[r.Intn(2)]
	case 1, 2, 3:
		if nested {
			return sym([]int{x, a, y}[r.Intn(3)])
		}
		return sym(r.Intn(len(texts)))
	case 4, 5:
		return nest([]int{openA, openB}[r.Intn(2)], []int{shutA, shutZ}[r.Intn(2)], anyExpr(r, deep-1, true))
	case 6, 7:
		return star(anyExpr(r, deep-1, nested))
	default:
		for range 2 + r.Intn(2) {
			l = append(l, anyExpr(r, deep-1, nested))
		}
		if k == 8 {
			return cat(l...)
		}
	}
	return or(l...)
}

// written is Text by other means: all that stands about a part is told by the part's and the whole's kinds, as "whole part".
func written(e api.Expr, in string) string {
	kind := []string{"", "", "", "", "", "cat", "or", "star"}[e.Kind]
	var l []string
	for _, part := range e.L {
		l = append(l, written(part, kind))
	}
	var s string
	switch e.Kind {
	case api.ENone, api.EVoid:
		s = []string{"0", "1"}[e.Kind-api.ENone]
	case api.ESym:
		s = texts[e.Sym]
	case api.ENest:
		begins, ends := texts[e.Sym], texts[e.End]
		s = begins[:len(begins)-1] + "[ " + l[0] + " ]" + ends[2:]
	case api.ECat:
		s = strings.Join(l, " ")
	case api.EOr:
		s = strings.Join(l, " | ")
	case api.EStar:
		s = l[0] + "*"
	}
	if strings.Contains(" cat-or or-or star-or cat-cat star-cat ", " "+in+"-"+kind+" ") {
		return "( " + s + " )"
	}
	return s
}

// fault is what is thrown where a text is wrong.
type fault struct {
	at int
	e  api.Errno
}

// descent is Parse by other means: a function for each rule of the text calls those of its parts.
type descent struct {
	s        string
	at, open int
}

var (
	piece = regexp.MustCompile(`^(?:[01()*|]|<[a-z]{1,8}\[|\][a-z]{1,8}>|</?[a-z]{1,8}>|[a-z]+)`)
	leafs = regexp.MustCompile(`^(?:[01]|</?[a-z]{1,8}>|[a-z]{1,8})$`)
)

// see tells the next piece of text, and its place.
func (d *descent) see() (string, int) {
	for strings.HasPrefix(d.s[d.at:], " ") {
		d.at++
	}
	return piece.FindString(d.s[d.at:]), d.at
}

// take goes on behind the next piece.
func (d *descent) take() {
	p, _ := d.see()
	d.at += len(p)
}

// place is that of the symbol with a text.
func place(text string, at int) int {
	i := slices.Index(texts, text)
	if i < 0 {
		panic(fault{at, api.NoName})
	}
	return i
}

// or reads cats.
func (d *descent) or() api.Expr {
	l := []api.Expr{d.cat()}
	for p, _ := d.see(); p == "|"; p, _ = d.see() {
		d.take()
		l = append(l, d.cat())
	}
	if len(l) == 1 {
		return l[0]
	}
	return or(l...)
}

// cat reads reps.
func (d *descent) cat() api.Expr {
	l := []api.Expr{d.rep()}
	for p, _ := d.see(); leafs.MatchString(p) || p == "(" || strings.HasSuffix(p, "["); p, _ = d.see() {
		l = append(l, d.rep())
	}
	if len(l) == 1 {
		return l[0]
	}
	return cat(l...)
}

// rep reads an atom and its stars.
func (d *descent) rep() api.Expr {
	e := d.atom()
	for p, _ := d.see(); p == "*"; p, _ = d.see() {
		d.take()
		e = star(e)
	}
	return e
}

// atom reads an atom.
func (d *descent) atom() api.Expr {
	p, at := d.see()
	switch {
	case p == "(":
		e, _, _ := d.inside(`)`)
		return e
	case strings.HasSuffix(p, "["):
		from := place(p[:len(p)-1]+">", at)
		e, shut, end := d.inside(`].*`)
		return nest(from, place("</"+shut[1:], end), e)
	case !leafs.MatchString(p):
		panic(fault{at, api.BadText})
	}
	d.take()
	switch p {
	case "0":
		return none()
	case "1":
		return void()
	}
	return sym(place(p, at))
}

// inside reads what opens, what is in it and what shuts it, and tells the latter two, and the last one's place.
func (d *descent) inside(shut string) (api.Expr, string, int) {
	if _, at := d.see(); d.open > 40 {
		panic(fault{at, api.TooDeep})
	}
	d.open++
	d.take()
	e := d.or()
	d.open--
	p, at := d.see()
	if p == "" || p[0] != shut[0] {
		panic(fault{at, api.BadText})
	}
	d.take()
	return e, p, at
}

// read is what the text s is over letters.
func read(s string) (e api.Expr, at int, err api.Errno) {
	defer func() {
		if f, ok := recover().(fault); ok {
			e, at, err = api.Expr{}, f.at, f.e
		}
	}()
	if len(s) > 2000 {
		return e, 0, api.TooLong
	}
	d := descent{s: s}
	f := d.or()
	if p, end := d.see(); p != "" || end < len(s) {
		return e, end, api.BadText
	}
	if err := expr.Check(letters(), f); err != api.OK {
		return e, 0, err
	}
	return f, 0, api.OK
}

// pattern is an expression as one of regexp; a symbol is a letter from A on.
func pattern(e api.Expr) string {
	var l []string
	for _, part := range e.L {
		l = append(l, "(?:"+pattern(part)+")")
	}
	switch e.Kind {
	case api.ENone:
		return `[^\x{0}-\x{10FFFF}]`
	case api.ESym:
		return string(rune('A' + e.Sym))
	case api.ENest:
		return string(rune('A'+e.Sym)) + l[0] + string(rune('A'+e.End))
	case api.EOr:
		return strings.Join(l, "|")
	case api.EStar:
		return l[0] + "*"
	}
	return strings.Join(l, "")
}

// lettered is a word as a text for a pattern.
func lettered(w []int) string {
	var b strings.Builder
	for _, n := range w {
		b.WriteByte(byte('A' + n))
	}
	return b.String()
}

// anyWordOf is a word that e has, if it finds one by its ways.
func anyWordOf(r *rand.Rand, e api.Expr) ([]int, bool) {
	var w []int
	switch e.Kind {
	case api.ENone:
		return nil, false
	case api.ESym:
		return []int{e.Sym}, true
	case api.ENest:
		v, ok := anyWordOf(r, e.L[0])
		return append(append([]int{e.Sym}, v...), e.End), ok
	case api.EOr:
		return anyWordOf(r, e.L[r.Intn(len(e.L))])
	case api.ECat:
		for _, part := range e.L {
			v, ok := anyWordOf(r, part)
			if !ok {
				return nil, false
			}
			w = append(w, v...)
		}
	case api.EStar:
		for range r.Intn(3) {
			v, ok := anyWordOf(r, e.L[0])
			if !ok {
				return nil, false
			}
			w = append(w, v...)
		}
	}
	return w, true
}

// room is l with spare room behind it, filled with v.
func room[T any](l []T, v T) []T {
	out := slices.Grow(slices.Clone(l), 8)
	for i := len(out); i < cap(out); i++ {
		out[:cap(out)][i] = v
	}
	return out
}

// roomy is e, each list of it with spare room behind it, filled with v.
func roomy(e, v api.Expr) api.Expr {
	e.L = room(e.L, v)
	for i := range e.L {
		e.L[i] = roomy(e.L[i], v)
	}
	return e
}

// sameRoom tells whether two expressions are one, and what is in their spare room too.
func sameRoom(e, f api.Expr) bool {
	return same(e, f) && slices.EqualFunc(e.L[:cap(e.L)], f.L[:cap(f.L)], sameRoom)
}

// spoil writes v over all lists of e, their spare room too.
func spoil(e, v api.Expr) {
	for _, part := range e.L {
		spoil(part, v)
	}
	l := e.L[:cap(e.L)]
	for i := range l {
		l[i] = v
	}
}
