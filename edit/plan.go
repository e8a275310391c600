package edit

import (
	"respell/api"
	"respell/machine"
	"respell/own"
	"respell/rule"
)

// widest is how many bytes a unit has at most.
const widest = 4

// plan is what a text has of its pass.
type plan struct {
	pass  api.Pass
	made  *machine.Machine
	sees  int // how many units of what is left the rules see at most
	tails int // how many units of what is done they see at most
}

// of makes a pass ready.
func of(p api.Pass) (*plan, api.Errno) {
	made, e := machine.New(p)
	if e != api.OK {
		return nil, e
	}
	x := &plan{pass: own.Pass(p), made: made}
	for _, r := range p.Rules {
		x.sees = max(x.sees, oneMore(r.End, len(r.Key)+len(r.Post)))
		x.tails = max(x.tails, oneMore(r.Begin, len(r.Ante)))
	}
	return x, api.OK
}

// oneMore is how many units a rule sees on one side. If it wants nothing beyond, one more tells whether that is so.
func oneMore(alone bool, n int) int {
	if alone {
		return n + 1
	}
	return n
}

// enough is so many known bytes that a step is decided.
func (p *plan) enough() int { return widest * max(1, p.sees) }

// does is the next step, of what is done and what is left: what it takes, lays behind what is done, and puts back.
func (p *plan) does(done, left []int) (took, laid, back []int) {
	n := p.made.Find(done, left)
	if n < 0 {
		return left[:1], left[:1], nil
	}
	r := p.pass.Rules[n]
	took = left[:len(r.Key)]
	laid, back = rule.Lays(r, took)
	return took, laid, back
}
