package det

import (
	"canopy/api"
)

// symbols are all, the places of those that open, and of those that close, and of each one how many that open stand ahead.
type symbols struct {
	all         []api.Sym
	open, close []int
	ahead       []int
}

// symbolsOf are those of l.
func symbolsOf(l []api.Sym) symbols {
	s := symbols{all: l}
	for i, x := range l {
		s.ahead = append(s.ahead, len(s.open))
		switch x.Kind {
		case api.Opens:
			s.open = append(s.open, i)
		case api.Closes:
			s.close = append(s.close, i)
		}
	}
	return s
}

// allow tells whether there may be so many rows. Of each there is a rule of each symbol, and of each two of them one of each opening and closing symbol.
func (s symbols) allow(rows, most int) bool {
	return rows <= most && rows <= api.MaxStates && rows*len(s.all)+rows*rows*len(s.open)*len(s.close) <= api.MaxRules
}

// mark is that of a row and an opening symbol.
func (s symbols) mark(row, open int) int { return row*len(s.open) + s.ahead[open] + 1 }
