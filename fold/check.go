package fold

import (
	"canopy/api"
)

// maxStates is how many states there may be.
const maxStates = 60

// base is the module that no symbol enters.
const base = 0

// isMod tells whether m is a machine of modules.
func isMod(m api.Mod) bool {
	if !isSized(m) || !isHoused(m) {
		return false
	}
	for p := range m.Of {
		if !isPlain(m, p) || !isLow(m, p) || !isRet(m, p) {
			return false
		}
	}
	return true
}

// isSized tells whether there are as many things as there may be.
func isSized(m api.Mod) bool {
	n := len(m.Of)
	return isFrom(0, m.Plains, api.MaxSyms) && isFrom(0, m.Closings, api.MaxSyms) &&
		isFrom(1, n, maxStates) && isFrom(1, len(m.Entry), api.MaxSyms+1) &&
		len(m.Final) == n && len(m.In) == n && len(m.Low) == n && len(m.Ret) == n
}

// isHoused tells whether each state has a module, and each module a state of its own to be entered at.
func isHoused(m api.Mod) bool {
	for _, k := range m.Of {
		if !isFrom(0, k, len(m.Entry)-1) {
			return false
		}
	}
	for k, p := range m.Entry {
		if !isIn(m, p, k) {
			return false
		}
	}
	return true
}

// isPlain tells whether p's steps by plain symbols are such.
func isPlain(m api.Mod, p int) bool {
	return len(m.In[p]) == m.Plains && areIn(m, m.In[p], m.Of[p])
}

// isLow tells whether p's steps by closing symbols where nothing is left are such.
func isLow(m api.Mod, p int) bool {
	if m.Of[p] != base {
		return len(m.Low[p]) == 0
	}
	return len(m.Low[p]) == m.Closings && areIn(m, m.Low[p], base)
}

// isRet tells whether p's steps by closing symbols where a state was pushed are such.
func isRet(m api.Mod, p int) bool {
	if m.Of[p] == base {
		return len(m.Ret[p]) == 0
	}
	if len(m.Ret[p]) != m.Closings {
		return false
	}
	for _, row := range m.Ret[p] {
		if len(row) != len(m.Of) {
			return false
		}
		for q, to := range row {
			if !isIn(m, to, m.Of[q]) {
				return false
			}
		}
	}
	return true
}

// areIn tells whether all of l are states of module k.
func areIn(m api.Mod, l []int, k int) bool {
	for _, p := range l {
		if !isIn(m, p, k) {
			return false
		}
	}
	return true
}

// isIn tells whether p is a state of module k.
func isIn(m api.Mod, p, k int) bool {
	return isFrom(0, p, len(m.Of)-1) && m.Of[p] == k
}

// isFrom tells whether n is from low to high.
func isFrom(low, n, high int) bool {
	return low <= n && n <= high
}
