package feed

import (
	"canopy/api"
)

// outside is the kind of no token: what comes next begins one.
const outside = 0

// token is a symbol's text, or as much of one as has come. It is the key by which symbols are found: what a name has not is 0, so that tokens of one name are one.
type token struct {
	kind, long int
	name       [api.MaxName]byte
}

// fault is the first error, and its place.
type fault struct {
	place int
	err   api.Errno
}

// scanner finds the tokens in bytes that come one by one.
type scanner struct {
	token
	fault
	syms map[token]int
	at   int // how many bytes have come
	from int // where the token begins
}

// scannerOf finds tokens of the symbols l.
func scannerOf(l []api.Sym) scanner {
	syms := map[token]int{}
	for i, s := range l {
		t := token{kind: s.Kind, long: len(s.Name)}
		copy(t.name[:], s.Name)
		syms[t] = i
	}
	return scanner{syms: syms}
}

// put reads a byte, and tells the symbol that is whole by it, of which there is one at most; false: none is. Behind an error it reads nothing.
func (s *scanner) put(b byte) (int, bool) {
	if s.err != api.OK {
		return 0, false
	}
	sym, whole := s.step(b)
	s.at++
	return sym, whole
}

// step is put at a byte whose place is how many have come.
func (s *scanner) step(b byte) (int, bool) {
	if s.kind == api.Plain && !isLetter(b) {
		sym, known := s.end()
		if known {
			s.begin(b)
		}
		return sym, known
	}
	switch {
	case s.kind == outside:
		s.begin(b)
	case isLetter(b) && s.long < api.MaxName:
		s.add(b)
	case b == '/' && s.token == token{kind: api.Opens}:
		s.kind = api.Closes
	case b == '>': // of `<>`, too: no symbol has no name
		return s.end()
	default:
		s.fail(s.from, api.BadToken)
	}
	return 0, false
}

// begin begins a token, or leaves out a blank.
func (s *scanner) begin(b byte) {
	s.from = s.at
	switch {
	case b == '<':
		s.kind = api.Opens
	case isLetter(b):
		s.kind = api.Plain
		s.add(b)
	case !isBlank(b):
		s.fail(s.at, api.BadToken)
	}
}

// add adds a letter to the name.
func (s *scanner) add(b byte) {
	s.name[s.long] = b
	s.long++
}

// end ends a token that is whole, and tells its symbol; false: there is none.
func (s *scanner) end() (int, bool) {
	sym, known := s.syms[s.token]
	s.token = token{}
	if !known {
		s.fail(s.from, api.BadToken)
		return 0, false
	}
	return sym, true
}

// finish is put where no byte comes any more.
func (s *scanner) finish() (int, bool) {
	switch {
	case s.err != api.OK || s.kind == outside:
		return 0, false
	case s.kind == api.Plain:
		return s.end()
	}
	s.fail(s.from, api.BadToken)
	return 0, false
}

// fail keeps an error.
func (s *scanner) fail(place int, err api.Errno) { s.fault = fault{place, err} }

// isLetter tells whether b may stand in a name.
func isLetter(b byte) bool { return 'a' <= b && b <= 'z' }

// isBlank tells whether b may stand between tokens.
func isBlank(b byte) bool { return b == ' ' || b == '\t' || b == '\n' }
