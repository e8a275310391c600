package turn

import (
	"respell/api"
	"respell/set"
	"respell/weigh"
)

// way is what a rule takes and what it writes: the one becomes the other, there and back.
type way struct {
	api.Rule
	image []api.Set
}

// ways are those of a pass's rules, if it can be turned; or which rule stands in the way, and why.
func ways(p api.Pass) ([]way, int, api.Errno) {
	if n, e := weigh.Check(p); e != api.OK {
		return nil, n, e
	}
	var l []way
	for _, r := range p.Rules {
		l = append(l, way{r, image(r)})
	}
	if n, e := check(l); e != api.OK {
		return nil, n, e
	}
	return l, 0, api.OK
}

// image is a set for each piece of a rule's result: what that may be.
func image(r api.Rule) []api.Set {
	var l []api.Set
	for _, x := range r.Result {
		switch x.Kind {
		case api.PUnit:
			l = append(l, api.Set{{Lo: x.Unit, Hi: x.Unit}})
		case api.PCopy:
			l = append(l, r.Key[x.Key])
		case api.PPair:
			l = append(l, x.To)
		}
	}
	return l
}

// back is the rule that undoes a way's.
func (w way) back() api.Rule {
	r := api.Rule{Begin: w.Begin, Ante: w.Ante, Key: w.image, Post: w.Post, End: w.End, Cursor: len(w.Key)}
	for place := range w.Key {
		r.Result = append(r.Result, w.restores(place))
	}
	return r
}

// restores is the piece that writes what stood at a place of the key. Of a place of more than one unit, just one piece of the result tells which it was.
func (w way) restores(place int) api.Piece {
	was := w.Key[place]
	if lone(was) {
		return api.Piece{Kind: api.PUnit, Unit: was[0].Lo}
	}
	n := w.speakers(place)[0]
	if w.Result[n].Kind == api.PPair {
		return api.Piece{Kind: api.PPair, Key: n, To: was}
	}
	return api.Piece{Kind: api.PCopy, Key: n}
}

// speakers are the pieces of the result that speak of a place of the key.
func (w way) speakers(place int) []int {
	var l []int
	for n, x := range w.Result {
		if x.Kind != api.PUnit && x.Key == place {
			l = append(l, n)
		}
	}
	return l
}

// lone tells whether a set has one unit alone.
func lone(s api.Set) bool { return set.Len(s) == 1 }

// free tells whether the rule fits wherever a unit of its key stands, so that no such unit goes over.
func (w way) free() bool {
	return len(w.Key) == 1 && len(w.Ante) == 0 && len(w.Post) == 0 && !w.Begin && !w.End
}
