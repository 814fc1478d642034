package marks

import (
	"math/bits"
)

// maxPlaces is how many places an expression may have: two of each of its nodes, of which it has 200 at most.
const maxPlaces = 2 * 200

// size is how many places stand in one number of a set.
const size = 64

// places is a set of places, a bit each.
type places [(maxPlaces + size - 1) / size]uint64

// only is the set of one place.
func only(n int) places {
	var s places
	s[n/size] = 1 << (n % size)
	return s
}

// has tells whether n is in s.
func (s places) has(n int) bool { return s[n/size]>>(n%size)&1 == 1 }

// with is what s has, and what t has.
func (s places) with(t places) places {
	for i := range s {
		s[i] |= t[i]
	}
	return s
}

// least is the first place of s, which has one.
func (s places) least() int {
	i := 0
	for s[i] == 0 {
		i++
	}
	return size*i + bits.TrailingZeros64(s[i])
}

// rising are the places of s: the least one is taken out, till nothing is left.
func (s places) rising() []int {
	var l []int
	for s != (places{}) {
		n := s.least()
		l = append(l, n)
		s[n/size] &^= 1 << (n % size)
	}
	return l
}
