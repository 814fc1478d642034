package kit

import (
	"slices"
	"strings"

	"canopy/api"
	"canopy/feed"
	"canopy/runs"
	"canopy/seek"
	"canopy/word"
)

// takes tells whether a machine takes a word.
func (k *Kit) takes(o order) string {
	w, at, e := word.Parse(k.symbols, o.rest)
	if e != api.OK {
		return wrong(e, at)
	}
	return whether(runs.Takes(k.symbols, o.of[0], w))
}

// feed tells whether a machine takes a stream.
func (k *Kit) feed(o order) string {
	f := feed.New(k.symbols, o.of[0], o.deep)
	f.Write([]byte(o.rest)) // Close tells its error
	is, at, e := f.Close()
	if e != api.OK {
		return wrong(e, at)
	}
	return whether(is)
}

// word tells how long the shortest word of a machine is.
func (k *Kit) word(o order) string {
	long, found := seek.Shortest(k.symbols, o.of[0])
	if !found {
		return none
	}
	return done(long)
}

// within tells whether a machine takes all that another one takes.
func (k *Kit) within(o order) string {
	w, is, e := seek.Within(k.symbols, o.of[0], o.of[1], most)
	return proof(w, is, e)
}

// same tells whether two machines take the same.
func (k *Kit) same(o order) string {
	w, is, e := seek.Same(k.symbols, o.of[0], o.of[1], most)
	return proof(w, is, e)
}

// proof is what is said of what seek has found: how long the word is that shows that something is not so.
func proof(w []int, is bool, e api.Errno) string {
	switch {
	case e != api.OK:
		return wrong(e)
	case is:
		return yes
	}
	return said(no, len(w))
}

// names tells the names of all machines.
func (k *Kit) names(order) string {
	var l []string
	for n := range k.machines {
		l = append(l, n.text())
	}
	slices.Sort(l)
	return strings.Join(append([]string{done()}, l...), " ")
}
