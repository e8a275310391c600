package turn

import (
	"maps"
	"slices"
	"sort"

	"respell/api"
)

// turns is where sets begin and end: at such a place, how many more of them have the unit there than have the number ahead of it.
// By it, sets that have too many ranges together for package set are joined and taken from one another.
type turns map[int]int

// add counts a set so many times.
func (t turns) add(s api.Set, times int) {
	for _, r := range s {
		t.turn(r.Lo, times)
		t.turn(r.Hi+1, -times)
	}
}

func (t turns) turn(at, by int) {
	t[at] += by
	if t[at] == 0 {
		// Where one set ends and another one begins nothing turns.
		delete(t, at)
	}
}

// units are those that are counted more than 0 times. They may have more ranges than a set may have, but these rise and are apart.
func (t turns) units() api.Set {
	var s api.Set
	count, lo := 0, 0
	for _, at := range slices.Sorted(maps.Keys(t)) {
		was := count
		count += t[at]
		switch {
		case was <= 0 && count > 0:
			lo = at
		case was > 0 && count <= 0:
			s = append(s, api.Range{Lo: lo, Hi: at - 1})
		}
	}
	return s
}

// core is the units of all keys and images.
func core(l []way) api.Set {
	t := turns{}
	for _, w := range l {
		for _, s := range slices.Concat(w.Key, w.image) {
			t.add(s, 1)
		}
	}
	return t.units()
}

// lost is the units that may stay and begin an image: on the way back they are not told from what was written.
func lost(l []way) api.Set {
	begin, gone := turns{}, turns{}
	for _, w := range l {
		begin.add(w.image[0], 1)
		if w.free() {
			gone.add(w.Key[0], 1)
		}
	}
	return less(begin.units(), gone.units())
}

// less is the units of one row of ranges that are not in another one.
func less(a, b api.Set) api.Set {
	t := turns{}
	t.add(a, 1)
	t.add(b, -1)
	return t.units()
}

// anyMeets tells whether one of some sets meets another one.
func anyMeets(l []api.Set, s api.Set) bool {
	return slices.ContainsFunc(l, func(x api.Set) bool { return meet(s, x) })
}

// meet tells whether two rows of ranges, which rise and are apart, have a unit in common. (set.Meet refuses to tell it of sets that meet in too many ranges.)
func meet(a, b api.Set) bool {
	for _, r := range b {
		// The first row may be by far the longer one. What ends ahead of this range ends ahead of all behind it, too.
		a = a[sort.Search(len(a), func(i int) bool { return r.Lo <= a[i].Hi }):]
		if len(a) > 0 && a[0].Lo <= r.Hi {
			return true
		}
	}
	return false
}
