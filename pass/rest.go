package pass

import "slices"

// rest is what is left. Units are taken from its front and put back there, so that it has room ahead of them.
type rest struct {
	units []int
	room  int // how many places of units are room
}

// now is the units that are left.
func (r *rest) now() []int { return r.units[r.room:] }

// swap takes so many units away, and puts others in their place.
func (r *rest) swap(took int, back []int) {
	r.room += took
	if r.room < len(back) {
		// As much room again as all that there is, so that it is seldom made.
		room := len(back) + len(r.units)
		r.units = slices.Concat(make([]int, room), r.now())
		r.room = room
	}
	r.room -= len(back)
	copy(r.now(), back)
}
