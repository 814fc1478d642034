package kit

import (
	"canopy/api"
)

// form says what stands behind a command, in this order.
type form struct {
	makes bool // a name, of what is made
	uses  int  // names of machines that are there
	deep  bool // a number
	rest  bool // what is left
}

// order is what a line says behind its command.
type order struct {
	to   name
	uses []name
	of   []api.Auto // the machines that it uses
	deep int
	rest string
}

// read takes what stands behind a command; false: it is of another form.
func (f form) read(w *words) (order, bool) {
	var o order
	if f.makes {
		o.to = w.name()
	}
	for range f.uses {
		o.uses = append(o.uses, w.name())
	}
	if f.deep {
		o.deep = w.depth()
	}
	if f.rest {
		o.rest = w.rest()
	}
	return o, !w.odd && !w.some
}
