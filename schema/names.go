package schema

import (
	"slices"

	"canopy/api"
)

// Words that are no names.
const (
	wordRoot    = "root"
	wordElement = "element"
	wordEmpty   = "empty"
	wordAny     = "any"
	wordText    = "text"
)

// isName tells whether a sign may be an element's name.
func isName(s sign) bool {
	switch s.text {
	case wordRoot, wordElement, wordEmpty, wordAny, wordText:
		return false
	}
	return s.kind == letters && len(s.text) <= api.MaxName
}

// named tells whether one of l has a name.
func named(l []api.Element, name string) bool {
	return slices.ContainsFunc(l, func(e api.Element) bool { return e.Name == name })
}

// strange tells whether the root of s, or a name in a model of it, is no element's.
func strange(s api.Schema) bool {
	if !named(s.L, s.Root) {
		return true
	}
	for _, e := range s.L {
		if unnamed(s.L, e.M) {
			return true
		}
	}
	return false
}

// unnamed tells whether a name in m is none of l.
func unnamed(l []api.Element, m api.Model) bool {
	if m.Kind == api.MName && !named(l, m.Name) {
		return true
	}
	return slices.ContainsFunc(m.L, func(part api.Model) bool { return unnamed(l, part) })
}

// opening is the symbol that opens an element.
func opening(name string) api.Sym { return api.Sym{Name: name, Kind: api.Opens} }

// closing is the symbol that closes an element.
func closing(name string) api.Sym { return api.Sym{Name: name, Kind: api.Closes} }

// plainText is the symbol of a text.
func plainText() api.Sym { return api.Sym{Name: wordText, Kind: api.Plain} }
