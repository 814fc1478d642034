package comp_test

import (
	"maps"
	"slices"

	"canopy/api"
)

// places are some of them, by their numbers.
type places map[int]struct{}

// edge leads from one place to the next one.
type edge struct{ from, to int }

// plain is what is read of an expression: of each place its symbol, and which nest it begins or ends, from 1 on (0: none); and what may stand behind what.
type plain struct {
	syms, nest []int
	nests      int
	next       map[edge]struct{}
}

// put adds a place.
func (p *plain) put(sym, nest int) places {
	p.syms, p.nest = append(p.syms, sym), append(p.nest, nest)
	return places{len(p.syms) - 1: {}}
}

// bind sets each of begins behind each of ends.
func (p *plain) bind(ends, begins places) {
	for a := range ends {
		for b := range begins {
			p.next[edge{a, b}] = struct{}{}
		}
	}
}

// read adds e, and tells with what its words begin and end, and whether one is that of nothing.
func (p *plain) read(e api.Expr) (first, last places, void bool) {
	first, last = places{}, places{}
	switch e.Kind {
	case api.EVoid:
		return first, last, true
	case api.ESym:
		here := p.put(e.Sym, 0)
		return here, here, false
	case api.EStar:
		first, last, _ = p.read(e.L[0])
		p.bind(last, first)
		return first, last, true
	case api.ENest:
		p.nests++
		own := p.nests
		begin := p.put(e.Sym, own)
		f, l, v := p.read(e.L[0])
		end := p.put(e.End, own)
		p.bind(begin, f)
		p.bind(l, end)
		if v {
			p.bind(begin, end)
		}
		return begin, end, false
	case api.EOr:
		for _, part := range e.L {
			f, l, v := p.read(part)
			maps.Copy(first, f)
			maps.Copy(last, l)
			void = void || v
		}
	case api.ECat:
		void = true
		for _, part := range e.L {
			f, l, v := p.read(part)
			p.bind(last, f)
			if void {
				maps.Copy(first, f)
			}
			if !v {
				last = places{}
			}
			maps.Copy(last, l)
			void = void && v
		}
	}
	return first, last, void
}

// plainMachine is what P701 says, its lists sorted.
func plainMachine(l []api.Sym, e api.Expr) api.Auto {
	p := plain{next: map[edge]struct{}{}}
	first, last, void := p.read(e)
	p.bind(places{-1: {}}, first)
	a := api.Auto{N: len(p.syms) + 1, G: p.nests + 1, Init: []int{0}}
	if void {
		a.Final = []int{0}
	}
	for place := range last {
		a.Final = append(a.Final, place+1)
	}
	for n := range p.next {
		s, own := p.syms[n.to], p.nest[n.to]
		switch l[s].Kind {
		case api.Plain:
			a.Inners = append(a.Inners, api.Inner{From: n.from + 1, Sym: s, To: n.to + 1})
		case api.Opens:
			a.Opens = append(a.Opens, api.Open{From: n.from + 1, Sym: s, To: n.to + 1, Push: own + 1})
		case api.Closes:
			a.Closes = append(a.Closes, api.Close{From: n.from + 1, Sym: s, Top: own + 1, To: n.to + 1})
			if own == 0 {
				a.Closes = append(a.Closes, api.Close{From: n.from + 1, Sym: s, Top: 0, To: n.to + 1})
			}
		}
	}
	slices.Sort(a.Final)
	slices.SortFunc(a.Inners, func(q, r api.Inner) int {
		return slices.Compare([]int{q.From, q.Sym, q.To}, []int{r.From, r.Sym, r.To})
	})
	slices.SortFunc(a.Opens, func(q, r api.Open) int {
		return slices.Compare([]int{q.From, q.Sym, q.To, q.Push}, []int{r.From, r.Sym, r.To, r.Push})
	})
	slices.SortFunc(a.Closes, func(q, r api.Close) int {
		return slices.Compare([]int{q.From, q.Sym, q.Top, q.To}, []int{r.From, r.Sym, r.Top, r.To})
	})
	return a
}
