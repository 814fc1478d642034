package expr

import (
	"strings"

	"canopy/api"
	"canopy/word"
)

// writer writes an expression of the symbols l.
type writer struct {
	l    []api.Sym
	text strings.Builder
}

// sign adds a sign, a blank ahead of it.
func (w *writer) sign(s string) {
	if w.text.Len() > 0 {
		w.text.WriteByte(' ')
	}
	w.text.WriteString(s)
}

// write adds e, which stands in one of kind in; 0: in none.
func (w *writer) write(e api.Expr, in int) {
	if !wrapped(e.Kind, in) {
		w.bare(e)
		return
	}
	w.sign("(")
	w.bare(e)
	w.sign(")")
}

// wrapped tells whether one of that kind stands in parentheses, where it stands in one of kind in.
func wrapped(kind, in int) bool {
	switch kind {
	case api.EOr:
		return in == api.ECat || in == api.EOr || in == api.EStar
	case api.ECat:
		return in == api.ECat || in == api.EStar
	}
	return false
}

// bare adds e without parentheses.
func (w *writer) bare(e api.Expr) {
	switch e.Kind {
	case api.ENone:
		w.sign("0")
	case api.EVoid:
		w.sign("1")
	case api.ESym:
		w.sign(word.Text(w.l, []int{e.Sym}))
	case api.ENest:
		w.sign("<" + w.l[e.Sym].Name + "[")
		w.write(e.L[0], api.ENest)
		w.sign("]" + w.l[e.End].Name + ">")
	case api.EStar:
		w.write(e.L[0], api.EStar)
		w.text.WriteByte('*')
	case api.ECat, api.EOr:
		w.parts(e)
	}
}

// parts adds those of an ECat, an EOr.
func (w *writer) parts(e api.Expr) {
	for i, part := range e.L {
		if i > 0 && e.Kind == api.EOr {
			w.sign("|")
		}
		w.write(part, e.Kind)
	}
}
