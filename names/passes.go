package names

import "respell/api"

// maker makes passes, line by line.
type maker struct {
	known  map[string]api.Set // what the lines ahead gave
	read   reader             // by known
	passes []api.Pass         // the last one is not yet ended
}

// Passes are the passes of lines; or which line is wrong, and why.
func Passes(l []api.Line) ([]api.Pass, int, api.Errno) {
	known := map[string]api.Set{}
	m := &maker{known: known, read: readItem(known), passes: make([]api.Pass, 1)}
	for n, line := range l {
		if e := m.take(line); e != api.OK {
			return nil, n, e
		}
	}
	return m.passes, 0, api.OK
}

// take takes the next line.
func (m *maker) take(l api.Line) api.Errno {
	switch l.Kind {
	case api.LnName:
		return m.give(l)
	case api.LnRule:
		return m.rule(l)
	case api.LnThen:
		m.passes = append(m.passes, api.Pass{})
		return api.OK
	}
	return api.ErrNamesKind
}

// give gives a name the set of its item, which is read ahead of that: a name does not stand for itself.
func (m *maker) give(l api.Line) api.Errno {
	if _, is := m.known[l.Name]; is {
		return api.ErrNamesTwice
	}
	if len(l.Key) != 1 {
		return api.ErrNamesKind
	}
	s, e := m.read(l.Key[0])
	if e == api.OK {
		m.known[l.Name] = s
	}
	return e
}

// rule makes a rule of the pass that is not yet ended.
func (m *maker) rule(l api.Line) api.Errno {
	r := api.Rule{Begin: l.Begin, End: l.End, Cursor: l.Cursor}
	var e api.Errno
	if r.Ante, e = each(l.Ante, m.read); e != api.OK {
		return e
	}
	if r.Key, e = each(l.Key, m.read); e != api.OK {
		return e
	}
	if r.Post, e = each(l.Post, m.read); e != api.OK {
		return e
	}
	if r.Result, e = each(l.Result, m.piece); e != api.OK {
		return e
	}
	last := &m.passes[len(m.passes)-1]
	last.Rules = append(last.Rules, r)
	return api.OK
}

// each reads the items of a row, up to the first that has an error.
func each[T any](row []api.Item, read func(api.Item) (T, api.Errno)) ([]T, api.Errno) {
	var out []T
	for _, i := range row {
		x, e := read(i)
		if e != api.OK {
			return nil, e
		}
		out = append(out, x)
	}
	return out, api.OK
}

// piece reads an item of a result. Lines count the places of a key from 1 on, rules from 0 on.
func (m *maker) piece(i api.Item) (api.Piece, api.Errno) {
	switch {
	case i.Kind == api.ItUnit:
		_, e := span(i.Unit, i.Unit)
		return api.Piece{Kind: api.PUnit, Unit: i.Unit}, e
	case i.Kind == api.ItCopy && i.Key >= 1:
		return api.Piece{Kind: api.PCopy, Key: i.Key - 1}, api.OK
	case i.Kind == api.ItPair && i.Key >= 1 && len(i.Parts) == 1:
		to, e := m.read(i.Parts[0])
		return api.Piece{Kind: api.PPair, Key: i.Key - 1, To: to}, e
	}
	return api.Piece{}, api.ErrNamesKind
}
