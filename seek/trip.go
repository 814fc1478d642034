package seek

import (
	"slices"

	"canopy/api"
)

// maxWord is how long a word is at most that is told: more than need be, but there are machines whose words no memory holds.
const maxWord = 1 << 20

// place is a state, and whether a symbol has opened that will have no partner. Behind such a one nothing closes where nothing is left.
type place struct {
	state int
	laden bool
}

// move leads to a place by a step, or by a symbol that has no partner.
type move struct {
	to place
	by step
}

// arrival is how a place is come to: how long the shortest word is, from which place its last move leads, and by what.
type arrival struct {
	long int
	from place
	by   step
}

// trip is a shortest word that a machine takes, if one is found, by places.
type trip struct {
	seeking  *seeking
	arrivals map[place]arrival
	end      place
	long     int
	found    bool
}

// tripOf is a's.
func tripOf(a api.Auto) trip {
	t := trip{seeking: sought(a), arrivals: map[place]arrival{}}
	moves, queue := t.seeking.moves(a), empty[place]()
	reach := func(at place, how arrival) {
		if old, known := t.arrivals[at]; !known || how.long < old.long {
			t.arrivals[at] = how
			queue.put(how.long, at)
		}
	}
	for _, q := range a.Init {
		reach(place{state: q}, arrival{})
	}
search:
	for long, at := range queue.all() {
		if long > t.arrivals[at].long {
			continue
		}
		for _, q := range a.Final {
			if q == at.state {
				t.end, t.long, t.found = at, long, true
				break search
			}
		}
		for _, m := range moves[at] {
			reach(m.to, arrival{sum(long, m.by.long), at, m.by})
		}
	}
	return t
}

// moves are those of a, by the places from which they lead.
func (s *seeking) moves(a api.Auto) map[place][]move {
	moves := map[place][]move{}
	add := func(from, to place, by step) { moves[from] = append(moves[from], move{to, by}) }
	for _, laden := range [...]bool{false, true} {
		for p, row := range s.next {
			for _, q := range row {
				add(place{p, laden}, place{q, laden}, s.steps[p][q])
			}
		}
		for _, r := range a.Opens {
			add(place{r.From, laden}, place{r.To, true}, step{long: 1, first: r.Sym})
		}
	}
	for _, r := range a.Closes {
		if r.Top == bottom {
			add(place{state: r.From}, place{state: r.To}, step{long: 1, first: r.Sym})
		}
	}
	return moves
}

// shorter is that one of two trips that is found at the shortest; the first one, if both are as long.
func shorter(t, u trip) trip {
	if !t.found || u.found && u.long < t.long {
		return u
	}
	return t
}

// tellable tells whether the word is found, and short enough to be told.
func (t trip) tellable() bool { return t.found && t.long <= maxWord }

// word is what is read on the trip.
func (t trip) word() []int {
	var steps []step
	for at := t.end; t.arrivals[at].long > 0; at = t.arrivals[at].from {
		steps = append(steps, t.arrivals[at].by)
	}
	slices.Reverse(steps)
	w := make([]int, 0, t.long)
	for _, by := range steps {
		w = t.seeking.tell(w, by)
	}
	return w
}

// tell adds the symbols of a step to w.
func (s *seeking) tell(w []int, by step) []int {
	w = append(w, by.first)
	if by.long == 1 {
		return w
	}
	w = s.tellWay(w, by.between)
	return append(w, by.last)
}

// tellWay adds the shortest whole word of a span to w.
func (s *seeking) tellWay(w []int, at span) []int {
	if at.from == at.to {
		return w
	}
	last := s.ways[at.from][at.to].last
	w = s.tellWay(w, span{at.from, last})
	return s.tell(w, s.steps[last][at.to])
}
