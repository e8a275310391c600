package machine

import (
	"respell/api"
	"respell/utf"
)

// unit is one with its atom, so that this is looked for once, however often rules look at the unit. (What is no unit has the atom -1.)
type unit struct{ number, atom int }

func (m *Machine) unit(u int) unit { return unit{u, m.table.Of(u)} }

// rest is what is left, the first unit last: so units are taken away and put back at a list's end.
type rest []unit

// at is the unit that has so many ahead of it.
func (r rest) at(n int) unit { return r[len(r)-1-n] }

// ahead is the state of what is ahead: the nodes of the antes' tree to which DONE's last units lead, and how many units DONE has.
type ahead struct {
	live  live
	units int
}

// walk is a machine on its way over a text.
type walk struct {
	m     *Machine
	ahead ahead
	done  []int
	left  rest
	laid  [api.MaxPieces]unit // room for what a step writes
	back  [api.MaxPieces]unit
}

// start is where nothing is done yet.
func (m *Machine) start(s string) *walk {
	w := &walk{m: m}
	for _, u := range utf.Back(s) {
		w.left = append(w.left, m.unit(u))
	}
	return w
}

// steps does one step after the other, as long as something is left, and tells each.
func (w *walk) steps(yield func(api.Step) bool) {
	for len(w.left) > 0 {
		if !yield(w.step()) {
			return
		}
	}
}

// step does what is next.
func (w *walk) step() api.Step {
	n := w.m.next(&w.ahead, w.left)
	does := &w.m.over
	if n != none {
		does = &w.m.rules[n]
	}
	// Both are written ahead of all changes, as they are made of what stands at the key.
	laid, back := does.lays(w.laid[:0], w.left), does.backs(w.back[:0], w.left)
	told := api.Step{Rule: n, Done: w.ahead.units, Left: len(w.left), Took: does.took, Laid: len(laid), Back: len(back)}
	for _, u := range laid {
		w.lay(u)
	}
	w.left = append(w.left[:len(w.left)-does.took], back...)
	return told
}

// lay puts a unit behind DONE.
func (w *walk) lay(u unit) {
	w.done = append(w.done, u.number)
	w.ahead = ahead{w.m.antes.on(&w.ahead.live, u.atom), w.ahead.units + 1}
}
