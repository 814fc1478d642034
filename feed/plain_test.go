package feed_test

import (
	"fmt"
	"regexp"
	"slices"

	"canopy/api"
)

// spot is a state, and marks, the last one first.
type spot struct {
	state int
	marks string
}

// nexts are where a may be behind sym, by rule after rule, in no order.
func nexts(a api.Auto, at spot, sym int) []spot {
	var l []spot
	for _, r := range a.Inners {
		if r.From == at.state && r.Sym == sym {
			l = append(l, spot{r.To, at.marks})
		}
	}
	for _, r := range a.Opens {
		if r.From == at.state && r.Sym == sym {
			l = append(l, spot{r.To, string(rune('A'+r.Push)) + at.marks})
		}
	}
	for _, r := range a.Closes {
		switch {
		case r.From != at.state || r.Sym != sym:
		case at.marks == "" && r.Top == 0:
			l = append(l, spot{r.To, ""})
		case at.marks != "" && r.Top > 0 && []rune(at.marks)[0] == rune('A'+r.Top):
			l = append(l, spot{r.To, string([]rune(at.marks)[1:])})
		}
	}
	return l
}

// taken tells whether a takes w, by all ways.
func taken(a api.Auto, w []int) bool {
	now := map[spot]struct{}{}
	for _, s := range a.Init {
		now[spot{state: s}] = struct{}{}
	}
	for _, sym := range w {
		next := map[spot]struct{}{}
		for at := range now {
			for _, to := range nexts(a, at, sym) {
				next[to] = struct{}{}
			}
		}
		now = next
	}
	for at := range now {
		if slices.Contains(a.Final, at.state) {
			return true
		}
	}
	return false
}

// whole is a text that is one, half is one that may become one: at the end of what has come.
var (
	blank = regexp.MustCompile(`^[ \t\n]+`)
	plain = regexp.MustCompile(`^[a-z]+`)
	whole = regexp.MustCompile(`^<(/?)([a-z]{1,8})>`)
	half  = regexp.MustCompile(`^</?[a-z]{0,8}$`)
)

// read is how far a text was read: the word up to its first error, how many opening ones wait then, and whether the last token is still open, at which place.
type read struct {
	w    []int
	wait int
	at   int
	e    api.Errno
	half int // -1: nothing is
}

// plainly reads s from left to right by patterns; at its end a row of letters is not whole yet, but where it is closed.
func plainly(l []api.Sym, deep int, s string, closed bool) read {
	r := read{half: -1}
	fail := func(at int, e api.Errno) read {
		r.at, r.e = at, e
		return r
	}
	for at := 0; at < len(s); {
		rest := s[at:]
		var sym api.Sym
		n := 0
		if b := blank.FindString(rest); b != "" {
			at += len(b)
			continue
		} else if p := plain.FindString(rest); p != "" {
			n, sym = len(p), api.Sym{Name: p, Kind: api.Plain}
			if n <= 8 && n == len(rest) && !closed {
				r.half = at
				return r
			}
		} else if m := whole.FindStringSubmatch(rest); m != nil {
			n, sym = len(m[0]), api.Sym{Name: m[2], Kind: 1 + len(m[1])}
		} else if half.MatchString(rest) && !closed {
			r.half = at
			return r
		}
		k := slices.Index(l, sym)
		switch {
		case k < 0:
			return fail(at, api.BadToken)
		case sym.Kind == api.Opens && r.wait >= deep:
			return fail(at, api.Depth)
		case sym.Kind == api.Opens:
			r.wait++
		case sym.Kind == api.Closes && r.wait > 0:
			r.wait--
		}
		r.w = append(r.w, k)
		at += n
	}
	return r
}

// plainTold is what is to be told of s, by patterns and by all ways of a; takes tells whether a takes a word.
func plainTold(l []api.Sym, deep int, s string, takes func(w []int) bool) told {
	so, end := plainly(l, deep, s, false), plainly(l, deep, s, true)
	x := told{at: so.at, e: so.e, deep: so.wait, place: end.at, err: end.e}
	x.is = end.e == api.OK && takes(end.w)
	return x
}

// plainTokens is what Tokens is to tell of s.
func plainTokens(l []api.Sym, s string) string {
	r := plainly(l, len(s), s, true)
	if r.e != api.OK {
		r.w = nil
	}
	return fmt.Sprint(r.w, " ", r.at, " ", r.e)
}
