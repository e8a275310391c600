// Package own copies what a caller may change later, for those who keep it, tell of it then, or answer of it.
package own

import (
	"slices"

	"respell/api"
)

// Pass is a copy of a pass that shares no memory with it.
func Pass(p api.Pass) api.Pass {
	rules := slices.Clone(p.Rules)
	for i, r := range rules {
		rules[i].Ante, rules[i].Key, rules[i].Post = row(r.Ante), row(r.Key), row(r.Post)
		rules[i].Result = slices.Clone(r.Result)
		for k, x := range r.Result {
			rules[i].Result[k].To = slices.Clone(x.To)
		}
	}
	return api.Pass{Rules: rules}
}

func row(l []api.Set) []api.Set {
	own := slices.Clone(l)
	for i, s := range own {
		own[i] = slices.Clone(s)
	}
	return own
}
