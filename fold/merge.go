package fold

import (
	"canopy/api"
)

// merged is the machine of the classes, which are numbered by their least states; the states of none are left out. States of one class lead to one class, so the least one stands for all.
func merged(m api.Mod, class []int) api.Mod {
	out := api.Mod{Plains: m.Plains, Closings: m.Closings, Entry: pick(class, m.Entry)}
	least := leasts(class)
	for _, p := range least {
		out.Of = append(out.Of, m.Of[p])
		out.Final = append(out.Final, m.Final[p])
		out.In = append(out.In, pick(class, m.In[p]))
		out.Low = append(out.Low, pick(class, m.Low[p]))
		var ret [][]int
		for _, row := range m.Ret[p] {
			ret = append(ret, pick(class, pick(row, least)))
		}
		out.Ret = append(out.Ret, ret)
	}
	return out
}

// leasts are the least states of the classes.
func leasts(class []int) []int {
	var l []int
	for p, n := range class {
		if n == len(l) {
			l = append(l, p)
		}
	}
	return l
}

// pick are those of l that stand at the places.
func pick(l, places []int) []int {
	out := make([]int, len(places))
	for i, at := range places {
		out[i] = l[at]
	}
	return out
}
