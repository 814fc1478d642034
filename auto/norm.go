package auto

import (
	"cmp"
	"slices"

	"canopy/api"
)

// Norm is a with its lists in order, each thing once.
func Norm(a api.Auto) api.Auto {
	return api.Auto{
		N:      a.N,
		G:      a.G,
		Init:   tidy(a.Init, cmp.Compare[int]),
		Final:  tidy(a.Final, cmp.Compare[int]),
		Opens:  tidy(a.Opens, byOpen),
		Closes: tidy(a.Closes, byClose),
		Inners: tidy(a.Inners, byInner),
	}
}

// tidy is l in order, each once. It works on a copy, so l stays.
func tidy[T comparable](l []T, order func(a, b T) int) []T {
	l = slices.Concat(l)
	slices.SortFunc(l, order)
	return slices.Compact(l)
}

func byOpen(a, b api.Open) int {
	return cmp.Or(cmp.Compare(a.From, b.From), cmp.Compare(a.Sym, b.Sym), cmp.Compare(a.To, b.To), cmp.Compare(a.Push, b.Push))
}

func byClose(a, b api.Close) int {
	return cmp.Or(cmp.Compare(a.From, b.From), cmp.Compare(a.Sym, b.Sym), cmp.Compare(a.Top, b.Top), cmp.Compare(a.To, b.To))
}

func byInner(a, b api.Inner) int {
	return cmp.Or(cmp.Compare(a.From, b.From), cmp.Compare(a.Sym, b.Sym), cmp.Compare(a.To, b.To))
}
