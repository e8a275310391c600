package book

import (
	"respell/api"
	"respell/chain"
	"respell/names"
	"respell/parse"
)

// open is the chain of a rules' text, and its passes; or what is wrong with the text.
func open(text string) (*chain.Chain, []api.Pass, api.Fault) {
	lines, fault := parse.Parse(text)
	if fault.Code != api.OK {
		return nil, nil, fault
	}
	c, passes, wrong := build(lines)
	if wrong != nil {
		return nil, nil, locate(wrong, lines, len(text))
	}
	return c, passes, api.Fault{}
}

// build is the chain of lines, and its passes; or what is wrong, and of which line or pass.
func build(lines []api.Line) (*chain.Chain, []api.Pass, error) {
	passes, n, e := names.Passes(lines)
	if e != api.OK {
		return nil, nil, ofLine{part{n, reason(e)}}
	}
	c, n, e := chain.New(passes)
	switch e {
	case api.OK:
		return c, passes, nil
	case api.ErrChainMany:
		// All passes together are too many: it is of none of them.
		return nil, nil, reason(e)
	}
	return nil, nil, ofPass{part{n, reason(e)}}
}

// What a line is.
type (
	definition struct{}
	ruling     struct{ at int }
	ending     struct{}
)

// told is what a line is: one of these three.
func told(l api.Line) any {
	switch l.Kind {
	case api.LnRule:
		return ruling{l.At}
	case api.LnThen:
		return ending{}
	}
	return definition{}
}

// firstRule is where the first rule of a pass stands; or the text's end, if the pass has none.
func firstRule(lines []api.Line, pass, end int) int {
	for _, l := range lines {
		switch x := told(l).(type) {
		case ending:
			pass--
		case ruling:
			if pass == 0 {
				return x.at
			}
		}
	}
	return end
}
