package seek

import (
	"canopy/api"
)

// bottom is the mark that is on top where nothing is left.
const bottom = 0

// entry is a rule of an opening symbol, as it is seen from the state to which it leads.
type entry struct{ from, sym, mark int }

// hook is a state, and the mark that is taken there.
type hook struct{ state, mark int }

// exit is a rule of a closing symbol, as it is seen from the hook where it begins.
type exit struct{ sym, to int }

// exits are those of a hook, and the states in which the mark was pushed for which they are found already. As there may be as many entries as exits, and each fit each, none is gone through again for one state: the first time is the shortest.
type exits struct {
	all   []exit
	found [api.MaxStates]bool
}

// nests are the rules between which something lies: the entries by the state to which they lead, and the exits by their hook.
type nests struct {
	entries map[int][]entry
	exits   map[hook]*exits
}

// nestsOf are a's.
func nestsOf(a api.Auto) nests {
	n := nests{map[int][]entry{}, map[hook]*exits{}}
	for _, r := range a.Opens {
		n.entries[r.To] = append(n.entries[r.To], entry{r.From, r.Sym, r.Push})
	}
	for _, r := range a.Closes {
		at := hook{r.From, r.Top}
		if n.exits[at] == nil {
			n.exits[at] = &exits{}
		}
		n.exits[at].all = append(n.exits[at].all, exit{r.Sym, r.To})
	}
	return n
}
