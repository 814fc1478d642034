package seek

import (
	"slices"

	"canopy/api"
)

// none is how long a word is that is not there: longer than any.
const none = api.Far + 1

// span is two states, between which something leads.
type span struct{ from, to int }

// step leads from a state to another by one symbol, the first one, or by one that opens, a whole word between, and one that closes, the last one.
type step struct {
	long        int
	first, last int
	between     span
}

// way is the shortest whole word of a span: how long it is, and from which state its last step leads.
type way struct{ long, last int }

// seeking is how far the ways are known. None is shorter than what it is made of, so they are found shortest first; and so the step of a span that is found first is the shortest one.
type seeking struct {
	nests nests
	ways  [][]way
	steps [][]step
	next  [][]int // of each state, where steps lead
	ahead [][]int // of each state, from where ways that are found lead
	queue *queue[span]
}

// sought has found all ways of a.
func sought(a api.Auto) *seeking {
	s := begun(a)
	for _, r := range a.Inners {
		s.lay(span{r.From, r.To}, step{long: 1, first: r.Sym})
	}
	for long, at := range s.queue.all() {
		if long > s.ways[at.from][at.to].long {
			continue // since it was put, a shorter one was found
		}
		s.lengthen(at)
		s.enclose(at)
	}
	return s
}

// begun knows that a word of nothing leads from each state to itself.
func begun(a api.Auto) *seeking {
	s := &seeking{nests: nestsOf(a), next: make([][]int, a.N), ahead: make([][]int, a.N), queue: empty[span]()}
	for p := range a.N {
		s.ways = append(s.ways, slices.Repeat([]way{{long: none}}, a.N))
		s.steps = append(s.steps, make([]step, a.N))
		s.ways[p][p].long = 0
		s.queue.put(0, span{p, p})
	}
	return s
}

// lengthen goes on from the end of a way that is found, by each step.
func (s *seeking) lengthen(at span) {
	s.ahead[at.to] = append(s.ahead[at.to], at.from)
	for _, q := range s.next[at.to] {
		s.offer(at.from, span{at.to, q})
	}
}

// enclose finds the steps of which a way that is found is what lies between.
func (s *seeking) enclose(at span) {
	long := sum(s.ways[at.from][at.to].long, 2)
	for _, in := range s.nests.entries[at.from] {
		out := s.nests.exits[hook{at.to, in.mark}]
		if out == nil || out.found[in.from] {
			continue
		}
		out.found[in.from] = true
		for _, e := range out.all {
			s.lay(span{in.from, e.to}, step{long, in.sym, e.sym, at})
		}
	}
}

// lay makes by the step of a span, unless it has one, and goes on by it from the ways that are found.
func (s *seeking) lay(at span, by step) {
	if s.steps[at.from][at.to].long > 0 {
		return
	}
	s.steps[at.from][at.to] = by
	s.next[at.from] = append(s.next[at.from], at.to)
	for _, p := range s.ahead[at.from] {
		s.offer(p, at)
	}
}

// offer puts the way from p that ends with the step of a span, if it is shorter than what is known.
func (s *seeking) offer(p int, end span) {
	long := sum(s.ways[p][end.from].long, s.steps[end.from][end.to].long)
	if long < s.ways[p][end.to].long {
		s.ways[p][end.to] = way{long, end.from}
		s.queue.put(long, span{p, end.to})
	}
}

// lengths are those of the ways.
func (s *seeking) lengths() [][]int {
	var out [][]int
	for _, row := range s.ways {
		long := make([]int, len(row))
		for q, w := range row {
			long[q] = min(w.long, api.Far)
		}
		out = append(out, long)
	}
	return out
}

// sum is how long two words are together. It does not go beyond Far, as words may be so long that no number holds it.
func sum(a, b int) int { return min(a+b, api.Far) }
