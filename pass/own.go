package pass

import (
	"slices"

	"respell/api"
)

// ownRules is a copy of rules that shares no memory with them.
func ownRules(l []api.Rule) []api.Rule {
	own := slices.Clone(l)
	for i, r := range own {
		own[i].Ante, own[i].Key, own[i].Post = ownRow(r.Ante), ownRow(r.Key), ownRow(r.Post)
		own[i].Result = slices.Clone(r.Result)
		for k, p := range r.Result {
			own[i].Result[k].To = slices.Clone(p.To)
		}
	}
	return own
}

func ownRow(l []api.Set) []api.Set {
	own := slices.Clone(l)
	for i, s := range own {
		own[i] = slices.Clone(s)
	}
	return own
}
