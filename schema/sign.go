package schema

import (
	"strings"
	"unicode/utf8"
)

// Kinds of signs that are not the one rune that they are of. No text has such runes.
const (
	letters rune = -1 - iota // a longest row of letters
	end                      // where the text ends
	stuck                    // where an error was met: what stands there fits nowhere
)

// blanks may stand between all signs.
const blanks = " \n"

// sign is a row of letters, or a rune that is none and has no text.
type sign struct {
	kind rune
	text string
}

// row is the sign that a row of letters is.
func row(text string) sign { return sign{kind: letters, text: text} }

// signAt is the first sign of s from a place on, blanks left out, its place and the one behind it.
func signAt(s string, from int) (sign, int, int) {
	rest := strings.TrimLeft(s[from:], blanks)
	at := len(s) - len(rest)
	if rest == "" {
		return sign{kind: end}, at, at
	}
	if n := lettersIn(rest); n > 0 {
		return row(rest[:n]), at, at + n
	}
	c, n := utf8.DecodeRuneInString(rest)
	return sign{kind: c}, at, at + n
}

// lettersIn tells with how many letters s begins.
func lettersIn(s string) int {
	for i, c := range s {
		if c < 'a' || 'z' < c {
			return i
		}
	}
	return len(s)
}
