package kit

import (
	"strconv"
	"strings"
)

// maxDeep is the greatest number that a line may say.
const maxDeep = 999

// words are what is left of a line.
type words struct {
	left string
	some bool // whether there is one: behind a blank there is, one of no bytes too
	odd  bool // whether one was read that may not stand there
}

// next takes the word ahead; of none it is one of no bytes, which is neither a name nor a number.
func (w *words) next() string {
	var ahead string
	ahead, w.left, w.some = strings.Cut(w.left, " ")
	return ahead
}

// name takes a name.
func (w *words) name() name {
	n := nameOf(w.next())
	if n == (name{}) {
		w.odd = true
	}
	return n
}

// depth takes a number. What is not as it would be written has a sign, or noughts ahead.
func (w *words) depth() int {
	s := w.next()
	n, err := strconv.Atoi(s)
	if err != nil || n < 0 || n > maxDeep || strconv.Itoa(n) != s {
		w.odd = true
	}
	return n
}

// rest takes all that is left.
func (w *words) rest() string {
	s := w.left
	w.left, w.some = "", false
	return s
}
