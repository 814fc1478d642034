// Package word: symbols, and words of them. See doc/01-word.md.
package word

import (
	"slices"
	"strings"

	"canopy/api"
)

// none is the partner of a place that has none.
const none = -1

// Check tells what keeps l from being a row of symbols.
func Check(l []api.Sym) api.Errno {
	if len(l) == 0 || len(l) > api.MaxSyms {
		return api.TooLong
	}
	for i, s := range l {
		switch {
		case !isName(s.Name):
			return api.BadName
		case s.Kind != api.Opens && s.Kind != api.Closes && s.Kind != api.Plain:
			return api.BadKind
		case slices.Contains(l[:i], s):
			return api.Twice
		}
	}
	return api.OK
}

// isName tells whether s may be a symbol's name.
func isName(s string) bool {
	for i := range len(s) {
		if class(s, i) != letter {
			return false
		}
	}
	return nameLong(len(s))
}

// nameLong tells whether a name may have n letters.
func nameLong(n int) bool { return 1 <= n && n <= api.MaxName }

// Parse reads a word of the symbols l; beside an error stands its place.
func Parse(l []api.Sym, s string) ([]int, int, api.Errno) {
	if len(s) > api.MaxText {
		return nil, 0, api.TooLong
	}
	var w []int
	for at := skip(s, 0); at < len(s); {
		sym, next, ok := scan(s, at)
		if !ok {
			return nil, at, api.BadText
		}
		place := slices.Index(l, sym)
		if place < 0 {
			return nil, at, api.NoName
		}
		w = append(w, place)
		at = skip(s, next)
	}
	return w, 0, api.OK
}

// Text writes the word w.
func Text(l []api.Sym, w []int) string {
	var b strings.Builder
	for i, place := range w {
		if i > 0 {
			b.WriteByte(' ')
		}
		write(&b, symAt(l, place))
	}
	return b.String()
}

// write adds the text of s.
func write(b *strings.Builder, s api.Sym) {
	switch s.Kind {
	case api.Opens:
		b.WriteString("<" + s.Name + ">")
	case api.Closes:
		b.WriteString("</" + s.Name + ">")
	default:
		b.WriteString(s.Name)
	}
}

// symAt is the symbol at a place of l. A place that l has not is a symbol of no kind, so that a word that may not be does no harm.
func symAt(l []api.Sym, place int) api.Sym {
	if place < 0 || place >= len(l) {
		return api.Sym{}
	}
	return l[place]
}

// Match tells of each place of w its partner.
func Match(l []api.Sym, w []int) []int {
	m := make([]int, len(w))
	var open []int
	for i, place := range w {
		m[i] = none
		switch symAt(l, place).Kind {
		case api.Opens:
			open = append(open, i)
		case api.Closes:
			if last := len(open) - 1; last >= 0 {
				m[i], m[open[last]] = open[last], i
				open = open[:last]
			}
		}
	}
	return m
}

// Deep tells how many opening ones at most wait for a partner at once.
func Deep(l []api.Sym, w []int) int {
	now, most := 0, 0
	for _, place := range w {
		switch symAt(l, place).Kind {
		case api.Opens:
			now++
			most = max(most, now)
		case api.Closes:
			now = max(now-1, 0)
		}
	}
	return most
}

// Whole tells whether all that opens and closes has a partner.
func Whole(l []api.Sym, w []int) bool {
	for i, partner := range Match(l, w) {
		kind := symAt(l, w[i]).Kind
		if partner == none && (kind == api.Opens || kind == api.Closes) {
			return false
		}
	}
	return true
}
