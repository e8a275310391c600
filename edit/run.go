package edit

import "slices"

// run is a run of a pass over a text, as far as the next one leans on it. It is not written into once it is made.
type run struct {
	source, result string
	clean          []state // rising: each has taken more of the source than the one ahead
}

// state is a clean one: nothing that was put back is left.
type state struct {
	steps int   // that were done
	taken int   // bytes of the source that were taken
	laid  int   // bytes of the result that are done
	tail  []int // the last units that are done, as far as rules see them
}

// empty is the run over no text, which is at its end where it begins.
func empty() run { return run{clean: []state{{}}} }

// at is the number of the clean state that has taken so many bytes; false: there is none, and it would stand there.
func (r run) at(taken int) (int, bool) {
	return slices.BinarySearchFunc(r.clean, taken, func(s state, taken int) int { return s.taken - taken })
}

// upTo is the number of the last clean state that has taken so many bytes at most; the beginning, if none has.
func (r run) upTo(taken int) int {
	n, is := r.at(taken)
	if !is {
		n--
	}
	return max(0, n)
}

// behind is the clean states behind one, as they are where the run goes on from another state as from that one.
func (r run) behind(n int, from state) []state {
	met := r.clean[n]
	l := slices.Clone(r.clean[n+1:])
	for i := range l {
		l[i].steps += from.steps - met.steps
		l[i].taken += from.taken - met.taken
		l[i].laid += from.laid - met.laid
	}
	return l
}
