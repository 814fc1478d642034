package det

import (
	"canopy/api"
)

// bottom is the mark that is on top where nothing is left. Rules that take no mark have it too.
const bottom = 0

// take is a symbol, and the mark that it takes.
type take struct{ sym, mark int }

// entry is a way of an opening symbol: what it pushes, to which state it leads, and from which ones.
type entry struct {
	push, to int
	from     states
}

// rules are those of a machine: from where to where each symbol leads that takes a mark, and the entries of each opening one.
type rules struct {
	leads   map[take]pairs
	entries map[int][]entry
}

// rulesOf are a's. Those that stand more than once count once.
func rulesOf(a api.Auto) rules {
	type start struct {
		take
		from int
	}
	type end struct{ sym, push, to int }
	tos, froms := map[start]states{}, map[end]states{}
	lead := func(sym, mark, from, to int) {
		at := start{take{sym, mark}, from}
		tos[at] = tos[at].with(only(to))
	}
	for _, r := range a.Opens {
		lead(r.Sym, bottom, r.From, r.To)
		at := end{r.Sym, r.Push, r.To}
		froms[at] = froms[at].with(only(r.From))
	}
	for _, r := range a.Closes {
		lead(r.Sym, r.Top, r.From, r.To)
	}
	for _, r := range a.Inners {
		lead(r.Sym, bottom, r.From, r.To)
	}
	rs := rules{map[take]pairs{}, map[int][]entry{}}
	for at, to := range tos {
		rs.leads[at.take] = append(rs.leads[at.take], ends{at.from, to})
	}
	for at, from := range froms {
		rs.entries[at.sym] = append(rs.entries[at.sym], entry{at.push, at.to, from})
	}
	return rs
}

// across are the pairs over all from an opening symbol to a closing one, between which row leads.
func (rs rules) across(open, shut int, row pairs) *spread {
	inside, over := row.spread(), &spread{}
	for _, e := range rs.entries[open] {
		behind := rs.leads[take{shut, e.push}].from(inside[e.to])
		if behind.none() {
			continue
		}
		for q := range e.from.all() {
			over[q].join(&behind)
		}
	}
	return over
}
