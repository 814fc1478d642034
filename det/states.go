package det

import (
	"iter"
	"math/bits"

	"canopy/api"
)

// size is how many states stand in one number of a set.
const size = 64

// states is a set of states, a bit each. It is an array, so that it may be a key of a map.
type states [(api.MaxStates + size - 1) / size]uint64

// only is the set of one state.
func only(n int) states {
	var s states
	s[n/size] = 1 << (n % size)
	return s
}

// setOf is the set of the states of l.
func setOf(l []int) states {
	var s states
	for _, n := range l {
		s = s.with(only(n))
	}
	return s
}

// has tells whether n is in s.
func (s *states) has(n int) bool { return s[n/size]>>(n%size)&1 == 1 }

// join adds what t has. By pointers, as most of the time goes here.
func (s *states) join(t *states) {
	for i := range s {
		s[i] |= t[i]
	}
}

// with is what s has, and what t has.
func (s states) with(t states) states {
	s.join(&t)
	return s
}

// meets tells whether s and t have a state in common.
func (s states) meets(t states) bool {
	for i := range s {
		if s[i]&t[i] != 0 {
			return true
		}
	}
	return false
}

// none tells whether s has nothing.
func (s states) none() bool { return s == states{} }

// all are the states of s, rising.
func (s states) all() iter.Seq[int] {
	return func(yield func(int) bool) {
		for i, left := range s {
			for ; left != 0; left &= left - 1 {
				if !yield(size*i + bits.TrailingZeros64(left)) {
					return
				}
			}
		}
	}
}
