package book

import (
	"iter"
	"strings"

	"respell/api"
	"respell/parse"
	"respell/rule"
	"respell/set"
)

// Plain is a rules' text of passes.
func Plain(l []api.Pass) (string, api.Errno) {
	if !mayBe(l) {
		return "", api.ErrBookPass
	}
	var b strings.Builder
	// Line by line: passes whose sets share their memory may have lines that take far more than is theirs.
	for line := range linesOf(l) {
		s, e := parse.Print([]api.Line{line})
		if e != api.OK || b.Len()+len(s) > api.MaxSource {
			return "", api.ErrLong
		}
		b.WriteString(s)
	}
	return b.String(), api.OK
}

// mayBe tells whether passes are neither none nor too many, and all their rules may be.
func mayBe(l []api.Pass) bool {
	if len(l) == 0 || len(l) > api.MaxPasses {
		return false
	}
	for _, p := range l {
		if _, e := rule.All(p); e != api.OK {
			return false
		}
	}
	return true
}

// linesOf gives the lines of passes.
func linesOf(l []api.Pass) iter.Seq[api.Line] {
	return func(yield func(api.Line) bool) {
		for n, p := range l {
			if n > 0 && !yield(api.Line{Kind: api.LnThen}) {
				return
			}
			for _, r := range p.Rules {
				if !yield(ruleLine(r)) {
					return
				}
			}
		}
	}
}

func ruleLine(r api.Rule) api.Line {
	l := api.Line{Kind: api.LnRule, Begin: r.Begin, End: r.End, Cursor: r.Cursor}
	l.Ante, l.Key, l.Post = items(r.Ante), items(r.Key), items(r.Post)
	for _, p := range r.Result {
		l.Result = append(l.Result, piece(p))
	}
	return l
}

func items(row []api.Set) []api.Item {
	var l []api.Item
	for _, s := range row {
		l = append(l, item(s))
	}
	return l
}

// item is a set as it stands in a row: one unit stands there by itself.
func item(s api.Set) api.Item {
	if set.Len(s) == 1 {
		return unit(s[0].Lo)
	}
	return ranges(s)
}

func unit(u int) api.Item { return api.Item{Kind: api.ItUnit, Unit: u} }

func ranges(s api.Set) api.Item {
	all := api.Item{Kind: api.ItSet}
	for _, r := range s {
		if r.Lo == r.Hi {
			all.Parts = append(all.Parts, unit(r.Lo))
		} else {
			all.Parts = append(all.Parts, api.Item{Kind: api.ItRange, Lo: r.Lo, Hi: r.Hi})
		}
	}
	return all
}

// piece is a piece as a line has it: lines count the places of a key from 1 on, rules from 0 on.
func piece(p api.Piece) api.Item {
	switch p.Kind {
	case api.PCopy:
		return api.Item{Kind: api.ItCopy, Key: p.Key + 1}
	case api.PPair:
		// A unit alone may not be paired: to such a set it is one in any case.
		return api.Item{Kind: api.ItPair, Key: p.Key + 1, Parts: []api.Item{ranges(p.To)}}
	}
	return unit(p.Unit)
}
