package trace

import (
	"slices"

	"respell/api"
	"respell/rule"
	"respell/utf"
)

// walk follows a run. A step tells how many units it takes and writes, but not which, and their widths hang on that: so what is left is kept here too.
type walk struct {
	rules []api.Rule
	rest  string // the bytes of the source that are left
	back  []int  // the units ahead of these that were put back, the first of them last
	done  int    // how many bytes are done
}

// clean tells whether nothing that was put back is left.
func (w *walk) clean() bool { return len(w.back) == 0 }

// follow does a step of the run.
func (w *walk) follow(step api.Step) {
	took := w.take(step.Took)
	laid, back := took, []int(nil)
	if step.Rule >= 0 {
		laid, back = rule.Lays(w.rules[step.Rule], took)
	}
	for _, u := range laid {
		w.done += utf.Width(u)
	}
	for _, u := range slices.Backward(back) {
		w.back = append(w.back, u)
	}
}

// take takes so many units of what is left.
func (w *walk) take(n int) []int {
	var l []int
	for range n {
		l = append(l, w.first())
	}
	return l
}

// first takes the first unit of what is left.
func (w *walk) first() int {
	if n := len(w.back); n > 0 {
		u := w.back[n-1]
		w.back = w.back[:n-1]
		return u
	}
	u, width := utf.First(w.rest)
	w.rest = w.rest[width:]
	return u
}
