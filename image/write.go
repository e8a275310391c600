package image

import "respell/api"

// writer lays bytes, one behind the other.
type writer struct{ laid []byte }

// lay lays numbers of a kind, each with its highest byte first.
func (w *writer) lay(k kind, l ...int) {
	for _, n := range l {
		for below := forms[k].width - 1; below >= 0; below-- {
			w.laid = append(w.laid, byte(n>>(8*below)))
		}
	}
}

func (w *writer) pass(p api.Pass) {
	w.lay(manyRules, len(p.Rules))
	for _, r := range p.Rules {
		w.rule(r)
	}
}

func (w *writer) rule(r api.Rule) {
	w.lay(ends, endsOf(r))
	w.row(manyNear, r.Ante)
	w.row(manyKey, r.Key)
	w.row(manyNear, r.Post)
	w.lay(manyPieces, len(r.Result))
	for _, p := range r.Result {
		w.piece(p)
	}
	w.lay(cursor, r.Cursor)
}

// endsOf is Begin and End of a rule as one number.
func endsOf(r api.Rule) int {
	n := 0
	if r.Begin {
		n |= begin
	}
	if r.End {
		n |= end
	}
	return n
}

// row lays sets, behind how many they are.
func (w *writer) row(many kind, l []api.Set) {
	w.lay(many, len(l))
	for _, s := range l {
		w.set(s)
	}
}

func (w *writer) set(s api.Set) {
	w.lay(manyRanges, len(s))
	for _, r := range s {
		w.lay(unit, r.Lo, r.Hi)
	}
}

// piece lays a piece that may be: what its kind does not have is zero, and is not laid.
func (w *writer) piece(p api.Piece) {
	w.lay(pieceKind, p.Kind)
	switch p.Kind {
	case api.PUnit:
		w.lay(unit, p.Unit)
	case api.PCopy:
		w.lay(place, p.Key)
	case api.PPair:
		w.lay(place, p.Key)
		w.set(p.To)
	}
}
