package fold

import (
	"canopy/api"
)

// none is the number of a state that is left out.
const none = -1

// search is the states that are found, and the same in the order in which they come.
type search struct {
	is    []bool
	queue []int
}

// find finds states.
func (s *search) find(l ...int) {
	for _, p := range l {
		if !s.is[p] {
			s.is[p] = true
			s.queue = append(s.queue, p)
		}
	}
}

// reached tells of each state whether some word leads to it. A state that is reached is so with any other one pushed that is: all that lies behind the symbol that opened its module hangs on nothing ahead of that.
func reached(m api.Mod) []bool {
	s := search{is: make([]bool, len(m.Of))}
	s.find(m.Entry...)
	for i := 0; i < len(s.queue); i++ {
		p := s.queue[i]
		s.find(m.In[p]...)
		s.find(m.Low[p]...)
		// Of two states the later one looks at both ways.
		for _, q := range s.queue[:i+1] {
			s.find(returns(m, p, q)...)
			s.find(returns(m, q, p)...)
		}
	}
	return s.is
}

// returns are the states to which p leads by each closing symbol, q pushed; none, if p is of the base.
func returns(m api.Mod, p, q int) []int {
	var to []int
	for _, row := range m.Ret[p] {
		to = append(to, row[q])
	}
	return to
}

// ranks numbers the states that are so, as they rise; none of the others.
func ranks(is []bool) []int {
	rank, n := make([]int, len(is)), 0
	for p, so := range is {
		rank[p] = none
		if so {
			rank[p] = n
			n++
		}
	}
	return rank
}
