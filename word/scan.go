package word

import (
	"canopy/api"
)

// Classes of what may stand in a text.
const (
	other = iota
	blank
	letter
	left
	slash
	right
	end
)

// class is that of what stands at s[i]. Behind the last byte stands an end, so that no reader has to ask for it ahead.
func class(s string, i int) int {
	if i >= len(s) {
		return end
	}
	switch b := s[i]; {
	case b == ' ':
		return blank
	case 'a' <= b && b <= 'z':
		return letter
	case b == '<':
		return left
	case b == '/':
		return slash
	case b == '>':
		return right
	}
	return other
}

// skip is the first place from i on where no blank stands.
func skip(s string, i int) int {
	for class(s, i) == blank {
		i++
	}
	return i
}

// scan reads the symbol's text that begins at s[from], up to a blank or the end, and tells the place behind it; false: there is none.
func scan(s string, from int) (api.Sym, int, bool) {
	kind, i, first, last := api.Plain, from, from, from
	switch class(s, i) {
	case left:
		i++
		goto bracket
	case letter:
		goto name
	}
	goto wrong

bracket:
	kind = api.Opens
	if class(s, i) == slash {
		kind = api.Closes
		i++
	}
	first = i

name:
	if class(s, i) == letter {
		i++
		goto name
	}
	last = i
	if kind == api.Plain {
		goto behind
	}
	if class(s, i) != right {
		goto wrong
	}
	i++

behind:
	switch class(s, i) {
	case blank, end:
		if nameLong(last - first) {
			return api.Sym{Name: s[first:last], Kind: kind}, i, true
		}
	}

wrong:
	return api.Sym{}, 0, false
}
