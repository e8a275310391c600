package stream

import (
	"slices"
	"strings"

	"respell/api"
	"respell/utf"
)

// front is what a stream knows: where its pass stands in the text.
type front struct {
	done  []int  // the last units that are done, as far as rules see them
	back  []int  // what was put back and not taken since
	known string // the bytes of the source that no step has taken
}

// comes adds bytes behind all that are known.
func (f *front) comes(b []byte) { f.known += string(b) }

// settle lets go of the bytes that were taken, which a part of a text would keep with it.
func (f *front) settle() { f.known = strings.Clone(f.known) }

// leaves tells whether anything is left.
func (f *front) leaves() bool { return len(f.back) > 0 || f.known != "" }

// near is the first units of what is left, so many at most.
func (f *front) near(most int) []int {
	l := slices.Clone(f.back[:min(most, len(f.back))])
	for _, u := range utf.All(f.known) {
		if len(l) == most {
			break
		}
		l = append(l, u)
	}
	return l
}

// take takes so many units of what is left.
func (f *front) take(n int) []int {
	var l []int
	for range n {
		l = append(l, f.first())
	}
	return l
}

// first takes the first unit of what is left. What was put back stays units, whatever bytes come behind it.
func (f *front) first() int {
	if len(f.back) > 0 {
		u := f.back[0]
		f.back = f.back[1:]
		return u
	}
	u, width := utf.First(f.known)
	f.known = f.known[width:]
	return u
}

// putBack puts units in front of what is left.
func (f *front) putBack(l []int) { f.back = slices.Concat(l, f.back) }

// lay puts units behind what is done, of which rules see no more than an ante, and whether one more stands ahead of it.
func (f *front) lay(l []int) {
	f.done = append(f.done, l...)
	f.done = f.done[max(0, len(f.done)-api.MaxNear-1):]
}

// clone is a front of its own.
func (f *front) clone() front {
	return front{slices.Clone(f.done), slices.Clone(f.back), f.known}
}
