package dtd

import (
	"canopy/api"
)

// mostModels are far more than a text may have, as it has a byte at least of each.
const mostModels = 50 * api.MaxText

// count is how many states, and models, are met in a schema. It goes no further than it may, as models that share their parts, or hold themselves, may have more of them than can be gone through.
type count struct {
	most, elements int
	states, models int
}

// fits tells whether the machine of s has no more states than most.
func fits(s api.Schema, most int) bool {
	c := count{most: most, elements: len(s.L), states: behind + 1}
	for _, e := range s.L {
		c.states++
		c.add(e.M)
		if c.over() {
			break
		}
	}
	return !c.over()
}

// over tells whether there are too many.
func (c *count) over() bool { return c.states > c.most || c.models > mostModels }

// add counts m, and its parts.
func (c *count) add(m api.Model) {
	c.models++
	switch m.Kind {
	case api.MAny:
		c.states += 1 + c.elements
	case api.MText, api.MName:
		c.states++
	}
	for _, part := range m.L {
		if c.over() {
			break
		}
		c.add(part)
	}
}
