package feed

import (
	"iter"
	"math/bits"

	"canopy/api"
)

// size is how many states stand in one number of a set.
const size = 64

// set is a set of states, a bit each, so that many states are led on at once. The empty one is its zero value.
type set [(api.MaxStates + size - 1) / size]uint64

// isState tells whether n may be in a set.
func isState(n int) bool { return 0 <= n && n < api.MaxStates }

// put adds the state n.
func (s *set) put(n int) { s[n/size] |= 1 << (n % size) }

// has tells whether the state n is in s.
func (s *set) has(n int) bool { return s[n/size]>>(n%size)&1 == 1 }

// join adds what t has. By pointers, as most of the time goes here.
func (s *set) join(t *set) {
	for i := range s {
		s[i] |= t[i]
	}
}

// all are the states of s, rising.
func (s set) all() iter.Seq[int] {
	return func(yield func(int) bool) {
		for i, left := range s {
			for ; left != 0; left &= left - 1 {
				if !yield(size*i + bits.TrailingZeros64(left)) {
					return
				}
			}
		}
	}
}
