package own_test

import (
	"reflect"
	"testing"

	"respell/api"
	"respell/own"
)

func of(lo, hi int) api.Set { return api.Set{{Lo: lo, Hi: hi}} }

func whole() api.Pass {
	r := api.Rule{
		Begin: true, Ante: []api.Set{of(1, 2), of(3, 4)}, Key: []api.Set{of(5, 6)}, Post: []api.Set{of(7, 8)}, End: true,
		Result: []api.Piece{{Kind: api.PUnit, Unit: 9}, {Kind: api.PPair, To: of(10, 11)}}, Cursor: 1,
	}
	return api.Pass{Rules: []api.Rule{r, {Key: []api.Set{of(12, 13)}}}}
}

func TestPassIsTheSame(t *testing.T) {
	for _, p := range []api.Pass{{}, whole(), {Rules: []api.Rule{{}}}, {Rules: []api.Rule{{Cursor: -9, Key: []api.Set{nil}}}}} {
		if got := own.Pass(p); !reflect.DeepEqual(got, p) {
			t.Errorf("%v, not %v", got, p)
		}
	}
}

func TestPassSharesNothing(t *testing.T) {
	for n, spoil := range []func(p api.Pass){
		func(p api.Pass) { p.Rules[1] = api.Rule{} },
		func(p api.Pass) { p.Rules[0].Cursor = 7 },
		func(p api.Pass) { p.Rules[0].Ante[1] = nil },
		func(p api.Pass) { p.Rules[0].Ante[1][0].Lo = 77 },
		func(p api.Pass) { p.Rules[0].Key[0] = nil },
		func(p api.Pass) { p.Rules[0].Key[0][0].Hi = 77 },
		func(p api.Pass) { p.Rules[1].Key[0][0].Hi = 77 },
		func(p api.Pass) { p.Rules[0].Post[0] = nil },
		func(p api.Pass) { p.Rules[0].Post[0][0].Lo = 77 },
		func(p api.Pass) { p.Rules[0].Result[0].Unit = 77 },
		func(p api.Pass) { p.Rules[0].Result[1].To = nil },
		func(p api.Pass) { p.Rules[0].Result[1].To[0].Lo = 77 },
	} {
		// What is written into the one is seen at the other neither way.
		p := whole()
		copied := own.Pass(p)
		spoil(p)
		if !reflect.DeepEqual(copied, whole()) {
			t.Errorf("%d: %v", n, copied)
		}
		p = whole()
		spoil(own.Pass(p))
		if !reflect.DeepEqual(p, whole()) {
			t.Errorf("%d: %v", n, p)
		}
	}
}
