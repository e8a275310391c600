package machine

import (
	"slices"
	"sort"

	"respell/api"
)

// piece is the unit that a piece of a result is, where what is left begins with the rule's key.
type piece func(left rest) unit

// piece makes a piece of a result ready. It holds nothing that is the caller's.
func (m *Machine) piece(key []api.Set, p api.Piece) piece {
	switch p.Kind {
	case api.PCopy:
		return again(p.Key)
	case api.PPair:
		place, way := p.Key, newWay(key[p.Key], p.To)
		return func(left rest) unit { return m.unit(way.to(left.at(place).number)) }
	}
	u := m.unit(p.Unit)
	return func(rest) unit { return u }
}

// again is a copy of what stands at a place.
func again(place int) piece {
	return func(left rest) unit { return left.at(place) }
}

// stretch is units of a set, from lo on, whose partners are all as far away.
type stretch struct{ lo, by int }

// way leads from the units of one set to those of another one that have the same places there. It is stretches, rising.
type way []stretch

// newWay is the way between sets that have as many units.
func newWay(from, to api.Set) way {
	var w way
	// What is gone over is cut off, and not from the caller's sets.
	from, to = slices.Clone(from), slices.Clone(to)
	for len(from) > 0 {
		by := to[0].Lo - from[0].Lo
		if last := len(w) - 1; last < 0 || w[last].by != by {
			w = append(w, stretch{from[0].Lo, by})
		}
		n := min(size(from[0]), size(to[0]))
		from, to = cut(from, n), cut(to, n)
	}
	return w
}

func size(r api.Range) int { return r.Hi - r.Lo + 1 }

// cut is a set without its first n units, of which its first range has as many at least.
func cut(s api.Set, n int) api.Set {
	if size(s[0]) == n {
		return s[1:]
	}
	s[0].Lo += n
	return s
}

// to is the partner of a unit of the first set.
func (w way) to(u int) int {
	behind := sort.Search(len(w), func(i int) bool { return w[i].lo > u })
	return u + w[behind-1].by
}
