package kit

import (
	"strings"

	"canopy/api"
	"canopy/word"
)

// syms sets the symbols.
func (k *Kit) syms(o order) string {
	l := symbolsOf(o.rest)
	switch e := word.Check(l); e {
	case api.OK:
	case api.BadName:
		return wrong(api.BadText) // what has no name that may be is no symbol's text
	default:
		return wrong(e)
	}
	for i := range l {
		l[i].Name = strings.Clone(l[i].Name) // or a few letters would keep the whole line
	}
	k.begin(l)
	return done(len(l))
}

// begin makes l the symbols. The machines go, as they are over others.
func (k *Kit) begin(l []api.Sym) { k.symbols, k.machines = l, map[name]api.Auto{} }

// symbolsOf are the symbols whose texts stand in s, with one blank between.
func symbolsOf(s string) []api.Sym {
	if s == "" {
		return nil
	}
	var l []api.Sym
	for _, text := range strings.SplitN(s, " ", api.MaxSyms+1) { // one too many shows it, however many there are
		l = append(l, symbolOf(text))
	}
	return l
}

// symbolOf is the symbol of a text. What is none has no name, or one that may not be: so word.Check meets it in its turn.
func symbolOf(text string) api.Sym {
	inner, angled := strings.CutPrefix(text, "<")
	if !angled {
		return api.Sym{Name: text, Kind: api.Plain}
	}
	inner, whole := strings.CutSuffix(inner, ">")
	if !whole {
		return api.Sym{}
	}
	if behind, closes := strings.CutPrefix(inner, "/"); closes {
		return api.Sym{Name: behind, Kind: api.Closes}
	}
	return api.Sym{Name: inner, Kind: api.Opens}
}
