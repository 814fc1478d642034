package schema

import (
	"canopy/api"
)

// most bytes are far more than a text may have; so a schema that is made by hand may be greater than one that is read.
const most = 50 * api.MaxText

// heavy tells whether s needs more bytes than most, even at the shortest. It goes no further than that, as models that share their parts, or hold themselves, may have more of them than can be gone through.
func heavy(s api.Schema) bool {
	left := most - len(s.Root)
	for _, e := range s.L {
		left = spent(left-len(e.Name), e.M)
		if left < 0 {
			return true
		}
	}
	return left < 0
}

// spent is what is left of some bytes, when m has taken what it needs at least: each model a byte, a name its letters. Below 0 it may need more.
func spent(left int, m api.Model) int {
	left -= max(1, len(m.Name))
	for _, part := range m.L {
		if left < 0 {
			break
		}
		left = spent(left, part)
	}
	return left
}
