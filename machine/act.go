package machine

import (
	"slices"

	"respell/api"
	"respell/atoms"
)

// none stands for a rule's number where there is no rule.
const none = -1

// act is a rule, made ready.
type act struct {
	took  int   // how many units its key has
	ante  int   // the node of its ante in the antes' tree
	near  int   // how many units its ante has
	post  []int // its post's sets
	begin bool
	end   bool
	lays  writer // what it puts behind DONE
	backs writer // what it puts back, the last unit first
}

// writer writes units behind others, where what is left begins with a rule's key.
type writer func(out []unit, left rest) []unit

// act makes a rule ready, whose sets have numbers.
func (m *Machine) act(sets numbers, r api.Rule) act {
	var pieces []piece
	for _, p := range r.Result {
		pieces = append(pieces, m.piece(r.Key, p))
	}
	back := pieces[r.Cursor:]
	slices.Reverse(back)
	return act{
		took:  len(r.Key),
		ante:  m.antes.add(sets.row(r.Ante)),
		near:  len(r.Ante),
		post:  sets.row(r.Post),
		begin: r.Begin,
		end:   r.End,
		lays:  writes(pieces[:r.Cursor]),
		backs: writes(back),
	}
}

// goesOver is what is done where no rule fits, as if a rule did it.
func goesOver() act {
	return act{took: 1, lays: writes([]piece{again(0)}), backs: writes(nil)}
}

func writes(pieces []piece) writer {
	return func(out []unit, left rest) []unit {
		for _, p := range pieces {
			out = append(out, p(left))
		}
		return out
	}
}

// fits tells whether the rule fits where what is left begins with its key. How many units there are on either side tells whether there are others farther away.
func (a *act) fits(table *atoms.Table, here *ahead, left rest) bool {
	if a.begin && here.units != a.near || !here.live.has(a.ante) {
		return false
	}
	seen := a.took + len(a.post)
	if len(left) < seen || a.end && len(left) > seen {
		return false
	}
	for i, set := range a.post {
		if !table.In(left.at(a.took+i).atom, set) {
			return false
		}
	}
	return true
}
