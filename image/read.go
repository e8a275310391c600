package image

import (
	"respell/api"
	"respell/rule"
)

// reader reads what a writer has laid. Once something is wrong all numbers are 0, so that no count has it read on.
type reader struct {
	left  []byte
	wrong bool
}

// number reads one of a kind.
func (r *reader) number(k kind) int {
	f := forms[k]
	if r.wrong || len(r.left) < f.width {
		r.wrong = true
		return 0
	}
	n := 0
	for _, b := range r.left[:f.width] {
		n = n<<8 | int(b)
	}
	r.left = r.left[f.width:]
	if n > f.most {
		r.wrong = true
		return 0
	}
	return n
}

// several reads how many there are of something, and then these, one by one.
func several[T any](r *reader, many kind, one func() T) []T {
	var l []T
	for range r.number(many) {
		l = append(l, one())
	}
	return l
}

// pass reads a pass, and is where one that may not be is found wrong.
func (r *reader) pass() api.Pass {
	p := api.Pass{Rules: several(r, manyRules, r.rule)}
	if _, e := rule.All(p); e != api.OK {
		r.wrong = true
	}
	return p
}

func (r *reader) rule() api.Rule {
	var x api.Rule
	both := r.number(ends)
	x.Begin, x.End = both&begin > 0, both&end > 0
	x.Ante = several(r, manyNear, r.set)
	x.Key = several(r, manyKey, r.set)
	x.Post = several(r, manyNear, r.set)
	x.Result = several(r, manyPieces, r.piece)
	x.Cursor = r.number(cursor)
	return x
}

func (r *reader) set() api.Set {
	return several(r, manyRanges, func() api.Range {
		return api.Range{Lo: r.number(unit), Hi: r.number(unit)}
	})
}

func (r *reader) piece() api.Piece {
	p := api.Piece{Kind: r.number(pieceKind)}
	switch p.Kind {
	case api.PUnit:
		p.Unit = r.number(unit)
	case api.PCopy:
		p.Key = r.number(place)
	case api.PPair:
		p.Key = r.number(place)
		p.To = r.set()
	}
	return p
}
