package kit

import (
	"strconv"

	"canopy/api"
)

// Words of answers that are no errors'.
const (
	yes  = "yes"
	no   = "no"
	none = "none"
)

// said is a word, and numbers behind it.
func said(word string, numbers ...int) string {
	for _, n := range numbers {
		word += " " + strconv.Itoa(n)
	}
	return word
}

// done is what is said where all is well.
func done(numbers ...int) string { return said(api.OK.Error(), numbers...) }

// wrong is what is said of an error, with its place, if the call that tells it has one.
func wrong(e api.Errno, place ...int) string { return said(e.Error(), place...) }

// whether is yes, or no.
func whether(is bool) string {
	if is {
		return yes
	}
	return no
}
