package machine

import (
	"cmp"
	"slices"

	"respell/api"
)

// numbers are sets, each of them once: its place is its number. They are the caller's memory, and not kept.
type numbers []api.Set

// numbered is all sets that rules ask for.
func numbered(rules []api.Rule) numbers {
	var all numbers
	for _, r := range rules {
		all = append(all, r.Ante...)
		all = append(all, r.Key...)
		all = append(all, r.Post...)
	}
	slices.SortFunc(all, compareSets)
	return slices.CompactFunc(all, slices.Equal[api.Set])
}

// row is the numbers of some of the sets.
func (l numbers) row(sets []api.Set) []int {
	var out []int
	for _, s := range sets {
		n, _ := slices.BinarySearchFunc(l, s, compareSets)
		out = append(out, n)
	}
	return out
}

func compareSets(a, b api.Set) int { return slices.CompareFunc(a, b, compareRanges) }

func compareRanges(a, b api.Range) int {
	return cmp.Or(cmp.Compare(a.Lo, b.Lo), cmp.Compare(a.Hi, b.Hi))
}
