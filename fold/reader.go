package fold

import (
	"canopy/api"
)

// reader is a machine that reads: where it is, and what was pushed and is not taken away. It is in the base just where nothing is left.
type reader struct {
	m    api.Mod
	at   int
	left []int
}

// step goes on by a symbol; false: it is none.
func (r *reader) step(sym api.Pair) bool {
	switch sym.A {
	case api.Opens:
		return r.open(sym.B)
	case api.Closes:
		return r.close(sym.B)
	case api.Plain:
		return r.plain(sym.B)
	}
	return false
}

// open goes on by an opening symbol; the first one enters the module behind the base.
func (r *reader) open(i int) bool {
	if !isFrom(0, i, len(r.m.Entry)-2) {
		return false
	}
	r.left = append(r.left, r.at)
	r.at = r.m.Entry[i+1]
	return true
}

// close goes on by a closing symbol.
func (r *reader) close(j int) bool {
	if !isFrom(0, j, r.m.Closings-1) {
		return false
	}
	last := len(r.left) - 1
	if last < 0 {
		r.at = r.m.Low[r.at][j]
		return true
	}
	r.at = r.m.Ret[r.at][j][r.left[last]]
	r.left = r.left[:last]
	return true
}

// plain goes on by a plain symbol.
func (r *reader) plain(i int) bool {
	if !isFrom(0, i, r.m.Plains-1) {
		return false
	}
	r.at = r.m.In[r.at][i]
	return true
}
