package kit

import (
	"canopy/api"
	"canopy/auto"
	"canopy/comp"
	"canopy/dtd"
	"canopy/expr"
	"canopy/mix"
	"canopy/schema"
	"canopy/word"
)

// keep is the end of each command that makes a machine: it has the name from then on, unless there was an error.
func (k *Kit) keep(to name, a api.Auto, e api.Errno) string {
	if e != api.OK {
		return wrong(e)
	}
	k.machines[to] = a
	return done(a.N, len(a.Opens)+len(a.Closes)+len(a.Inners))
}

// expr makes an expression to a machine.
func (k *Kit) expr(o order) string {
	if e := word.Check(k.symbols); e != api.OK {
		return wrong(e) // at first there are none
	}
	x, at, e := expr.Parse(k.symbols, o.rest)
	if e != api.OK {
		return wrong(e, at)
	}
	a, e := comp.Make(k.symbols, x, most)
	return k.keep(o.to, a, e)
}

// dtd makes a schema to a machine, and its symbols the symbols.
func (k *Kit) dtd(o order) string {
	s, at, e := schema.Parse(o.rest)
	if e != api.OK {
		return wrong(e, at)
	}
	a, e := dtd.Make(s, most)
	if e == api.OK {
		k.begin(schema.Syms(s))
	}
	return k.keep(o.to, a, e)
}

// not makes a machine of the words that one does not take.
func (k *Kit) not(o order) string {
	a, e := mix.Not(k.symbols, o.of[0], most)
	return k.keep(o.to, a, e)
}

// join makes a machine of two, of bound states at most.
type join func(l []api.Sym, a, b api.Auto, bound int) (api.Auto, api.Errno)

// joining is what a command of a join does.
func joining(by join, bound int) func(k *Kit, o order) string {
	return func(k *Kit, o order) string {
		a, e := by(k.symbols, o.of[0], o.of[1], bound)
		return k.keep(o.to, a, e)
	}
}

// trim leaves out of a machine what is not reached.
func (k *Kit) trim(o order) string {
	return k.keep(o.to, auto.Trim(k.symbols, o.of[0]), api.OK)
}

// drop forgets a machine.
func (k *Kit) drop(o order) string {
	delete(k.machines, o.uses[0])
	return done()
}
