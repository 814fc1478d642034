package runs

import (
	"cmp"
	"slices"
)

// spot is the mark that a symbol takes, or has pushed, and the number of the stack beneath.
type spot struct{ mark, rest int }

// places are the states at each spot. Those of one spot are led on together, however many they are.
type places map[spot]states

// put adds the states s at a spot.
func (p places) put(at spot, s states) {
	if !s.none() {
		p[at] = p[at].with(s)
	}
}

// lead goes on by rules that push nothing.
func (rs rules) lead(before places) places {
	after := places{}
	for at, s := range before {
		after.put(spot{unmarked, at.rest}, rs[at.mark].from(s))
	}
	return after
}

// push goes on by rules that push.
func (rs rules) push(before places) places {
	after := places{}
	for at, s := range before {
		for mark, m := range rs {
			after.put(spot{mark, at.rest}, m.from(s))
		}
	}
	return after
}

// parted is the mark on top of a stack, and the rest.
func parted(stack []int) (int, []int) {
	if len(stack) == 0 {
		return unmarked, nil
	}
	return stack[0], stack[1:]
}

// untouched takes no mark of a stack.
func untouched(stack []int) (int, []int) { return unmarked, stack }

// stepped is where read leads from at, of whose stacks part takes what read asks for.
func stepped(at []At, part func(stack []int) (int, []int), read func(before places) places) []At {
	var rests [][]int
	for _, x := range at {
		_, rest := part(x.Stack)
		rests = append(rests, rest)
	}
	rests = inOrder(rests)
	before := places{}
	for _, x := range at {
		mark, rest := part(x.Stack)
		n, _ := slices.BinarySearchFunc(rests, rest, slices.Compare)
		before.put(spot{mark, n}, only(x.State))
	}
	return told(read(before), rests)
}

// inOrder puts stacks in order, each once, so that their numbers rise as they do.
func inOrder(stacks [][]int) [][]int {
	slices.SortFunc(stacks, slices.Compare)
	return slices.CompactFunc(stacks, slices.Equal)
}

// told is p by state, then stack, each stack a copy of its own.
func told(p places, rests [][]int) []At {
	type end struct {
		state int
		spot
	}
	var ends []end
	for at, s := range p {
		for state := range s.all() {
			ends = append(ends, end{state, at})
		}
	}
	slices.SortFunc(ends, func(a, b end) int {
		return cmp.Or(cmp.Compare(a.state, b.state), cmp.Compare(a.mark, b.mark), cmp.Compare(a.rest, b.rest))
	})
	var at []At
	for _, e := range ends {
		at = append(at, At{State: e.state, Stack: stackOf(e.mark, rests[e.rest])})
	}
	return at
}

// stackOf is rest with a mark upon it, if there is one.
func stackOf(mark int, rest []int) []int {
	if mark == unmarked {
		return slices.Concat(rest)
	}
	return slices.Concat([]int{mark}, rest)
}
