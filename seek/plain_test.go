package seek_test

import (
	"slices"

	"canopy/api"
	"canopy/runs"
)

// These find out by other means than the program: by rules that are gone through till nothing gets shorter, or by all words.

// rows are n rows of n numbers.
func rows(n, v int) [][]int {
	all := make([][]int, n)
	for p := range all {
		for range n {
			all[p] = append(all[p], v)
		}
	}
	return all
}

// plainWays is what P1201 says of Ways.
func plainWays(a api.Auto) [][]int {
	ways := rows(a.N, far)
	done := false
	offer := func(p, q, long int) {
		if long < ways[p][q] {
			ways[p][q], done = long, false
		}
	}
	exits := map[int][]api.Close{}
	for _, r := range a.Closes {
		exits[r.Top] = append(exits[r.Top], r)
	}
	for !done {
		done = true
		for _, r := range a.Inners {
			offer(r.From, r.To, 1)
		}
		for _, r := range a.Opens {
			for _, s := range exits[r.Push] {
				offer(r.From, s.To, 2+ways[r.To][s.From])
			}
		}
		for p := range a.N {
			offer(p, p, 0)
			for q := range a.N {
				for r := range a.N {
					offer(p, q, ways[p][r]+ways[r][q])
				}
			}
		}
	}
	return ways
}

// plainShortest is what P1201 says of Shortest, far if there is none, by what it says of Ways: whole words between closing symbols of which nothing is left, then between opening ones that have no partner.
func plainShortest(a api.Auto, ways [][]int) int {
	bare, laden := slices.Repeat([]int{far}, a.N), slices.Repeat([]int{far}, a.N)
	done := false
	offer := func(to []int, q, long int) {
		if long < to[q] {
			to[q], done = long, false
		}
	}
	for !done {
		done = true
		for _, q := range a.Init {
			offer(bare, q, 0)
		}
		for p := range a.N {
			for q := range a.N {
				offer(bare, q, bare[p]+ways[p][q])
				offer(laden, q, laden[p]+ways[p][q])
			}
		}
		for _, r := range a.Closes {
			if r.Top == 0 {
				offer(bare, r.To, bare[r.From]+1)
			}
		}
		for _, r := range a.Opens {
			offer(laden, r.To, min(bare[r.From], laden[r.From])+1)
		}
	}
	least := far
	for _, q := range a.Final {
		least = min(least, bare[q], laden[q])
	}
	return least
}

// eachWord goes through all words of up to n symbols, shorter ones first.
func eachWord(l []api.Sym, n int, tell func(w []int)) {
	row := [][]int{nil}
	for long := range n + 1 {
		var longer [][]int
		for _, w := range row {
			tell(w)
			for sym := range l {
				if long < n {
					longer = append(longer, append(append([]int{}, w...), sym))
				}
			}
		}
		row = longer
	}
}

// led is where a comes to from a state on by w, whatever is left.
func led(l []api.Sym, a api.Auto, from int, w []int) []runs.At {
	at := []runs.At{{State: from}}
	for _, sym := range w {
		at = runs.Step(l, a, at, sym)
	}
	return at
}
