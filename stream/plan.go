package stream

import (
	"respell/api"
	"respell/machine"
	"respell/own"
	"respell/rule"
)

// widest is how many bytes a unit has at most.
const widest = 4

// plan is what a stream has of its pass.
type plan struct {
	pass api.Pass
	made *machine.Machine
	sees int // how many units of what is left the rules see at most
}

// of makes a pass ready.
func of(p api.Pass) (*plan, api.Errno) {
	made, e := machine.New(p)
	if e != api.OK {
		return nil, e
	}
	x := &plan{pass: own.Pass(p), made: made}
	for _, r := range p.Rules {
		x.sees = max(x.sees, sees(r))
	}
	return x, api.OK
}

// sees is how many units of what is left a rule sees: if it wants the end, one more tells that it is not there.
func sees(r api.Rule) int {
	n := len(r.Key) + len(r.Post)
	if r.End {
		n++
	}
	return n
}

// enough is so many known bytes that a step is decided.
func (p *plan) enough() int { return widest * max(1, p.sees) }

// next is the number of the rule that is next; -1: none, a unit goes over.
func (p *plan) next(done, left []int) int { return p.made.Find(done, left) }

// takes is how many units a step takes.
func (p *plan) takes(n int) int {
	if n < 0 {
		return 1
	}
	return len(p.pass.Rules[n].Key)
}

// lays is what a step lays behind what is done, and what it puts back, of the units that it takes.
func (p *plan) lays(n int, took []int) (laid, back []int) {
	if n < 0 {
		return took, nil
	}
	return rule.Lays(p.pass.Rules[n], took)
}
