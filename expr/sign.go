package expr

import (
	"slices"
	"strings"

	"canopy/api"
)

// Kinds of signs.
const (
	other = iota // what is no sign
	end          // where the text ends
	symbol
	nest     // what opens a nest
	nestShut // what shuts it
	none     // from here on as in ones
	void
	paren
	parenShut
	star
	bar
)

// ones are the signs of one byte each, none to bar.
const ones = "01()*|"

// unknown is the place of a symbol that l has not.
const unknown = -1

// sign is what stands at a place of a text, and where it ends; of one with a name the place of its symbol.
type sign struct{ kind, at, behind, sym int }

// frame is what stands about the name in a sign, and the kind of symbol that the name is of.
type frame struct {
	ahead, behind string
	kind, of      int
}

// frames are those of all signs with names. At no place fits more than one, so their order does not matter.
var frames = [5]frame{
	{"", "", symbol, api.Plain},
	{"<", ">", symbol, api.Opens},
	{"</", ">", symbol, api.Closes},
	{"<", "[", nest, api.Opens},
	{"]", ">", nestShut, api.Closes},
}

// signAt is the first sign of s from a place on, blanks left out.
func signAt(l []api.Sym, s string, at int) sign {
	for at < len(s) && s[at] == ' ' {
		at++
	}
	if at == len(s) {
		return sign{kind: end, at: at, behind: at}
	}
	if i := strings.IndexByte(ones, s[at]); i >= 0 {
		return sign{kind: none + i, at: at, behind: at + 1}
	}
	for _, f := range frames {
		if name, ok := f.nameIn(s[at:]); ok {
			behind := at + len(f.ahead) + len(name) + len(f.behind)
			return sign{f.kind, at, behind, slices.Index(l, api.Sym{Name: name, Kind: f.of})}
		}
	}
	return sign{kind: other, at: at, behind: at}
}

// nameIn tells the name in the sign of that frame that s begins with; false: it begins with none.
func (f frame) nameIn(s string) (string, bool) {
	rest, ok := strings.CutPrefix(s, f.ahead)
	n := letters(rest)
	if !ok || n < 1 || n > api.MaxName || !strings.HasPrefix(rest[n:], f.behind) {
		return "", false
	}
	return rest[:n], true
}

// letters tells with how many letters s begins.
func letters(s string) int {
	n := 0
	for n < len(s) && 'a' <= s[n] && s[n] <= 'z' {
		n++
	}
	return n
}
