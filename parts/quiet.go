package parts

import (
	"slices"

	"respell/api"
	"respell/set"
	"respell/utf"
)

// quiet is those of a text's units that a pass never looks at, rising.
func quiet(p api.Pass, s string) []int {
	units := utf.Cut(s)
	slices.Sort(units)
	var l []int
	// So many units are a set, and whichever of them are taken away, the others are one.
	for some := range slices.Chunk(slices.Compact(units), api.MaxRanges) {
		l = slices.AppendSeq(l, set.All(unseen(p, some)))
	}
	return l
}

// unseen is the set of some units, less those of all keys and contexts of a pass.
func unseen(p api.Pass, units []int) api.Set {
	var ranges []api.Range
	for _, u := range units {
		ranges = append(ranges, api.Range{Lo: u, Hi: u})
	}
	left, _ := set.Of(ranges)
	for _, r := range p.Rules {
		for _, seen := range slices.Concat(r.Ante, r.Key, r.Post) {
			left, _ = set.Less(left, seen)
		}
	}
	return left
}

// ends is the places of a text, but its length, at which one of some units ends, which rise.
func ends(s string, units []int) []int {
	var l []int
	for at, u := range utf.All(s) {
		end := at + utf.Width(u)
		if _, is := slices.BinarySearch(units, u); is && end < len(s) {
			l = append(l, end)
		}
	}
	return l
}
