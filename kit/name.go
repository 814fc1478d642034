package kit

import (
	"canopy/api"
	"canopy/word"
)

// name is that of a machine: its letters, and how many they are; one of none is no name. It holds them itself, so that none of the line is kept.
type name struct {
	letters [api.MaxName]byte
	long    int
}

// nameOf is the name that s is. A machine's is made as a symbol's is.
func nameOf(s string) name {
	if word.Check([]api.Sym{{Name: s, Kind: api.Plain}}) != api.OK {
		return name{}
	}
	n := name{long: len(s)}
	copy(n.letters[:], s)
	return n
}

// text is what n is written as.
func (n name) text() string { return string(n.letters[:n.long]) }
