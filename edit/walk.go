package edit

import (
	"slices"
	"unicode/utf8"

	"respell/need"
	"respell/utf"
)

// walk is a run on its way over a text. It goes on from an old run over another text, and need not go farther than to where it meets that one.
type walk struct {
	plan  *plan
	old   run
	from  int // the number of the old run's clean state from which it went
	text  string
	end   int     // how many bytes both texts have in common at their end
	now   state   // where it is; clean, if back is empty
	back  []int   // what was put back and not taken since
	laid  []byte  // what it has laid since it went
	clean []state // through which it has come since
}

// anew is the run over a text, of an old one over another text, and how many of its steps had to be done anew.
func (p *plan) anew(old run, text string) (run, int) {
	begin := beginAlike(old.source, text)
	// At each step up to this state both texts went on alike so far that it was decided.
	from := old.upTo(begin - p.enough())
	w := &walk{plan: p, old: old, from: from, text: text, end: endAlike(old.source, text), now: old.clean[from]}
	for w.decided(begin) {
		w.step()
	}
	ahead := w.now.steps
	for w.leaves() && !w.meets(ahead) {
		w.step()
	}
	return w.joined(), w.now.steps - ahead
}

// decided tells whether the next step is the same whatever stands behind so many bytes of the text.
func (w *walk) decided(known int) bool {
	// Where much is known it always is, and need would ask the whole pass anew at each step.
	if known-w.now.taken >= w.plan.enough() {
		return true
	}
	_, is := need.Decide(w.plan.pass, w.now.tail, w.back, w.text[w.now.taken:known])
	return is
}

// leaves tells whether anything is left.
func (w *walk) leaves() bool { return len(w.back) > 0 || w.now.taken < len(w.text) }

// meets tells whether the old run was, behind so many steps at least, where this one is: all that is done from there on is the same then.
func (w *walk) meets(ahead int) bool {
	if len(w.back) > 0 || len(w.text)-w.now.taken > w.end {
		return false
	}
	n, is := w.across()
	return is && w.old.clean[n].steps >= ahead && slices.Equal(w.old.clean[n].tail, w.now.tail)
}

// across is the number of the old run's clean state with as many bytes left; false: there is none.
func (w *walk) across() (int, bool) {
	return w.old.at(w.now.taken + len(w.old.source) - len(w.text))
}

// step does what is next.
func (w *walk) step() {
	took, laid, back := w.plan.does(w.now.tail, w.near())
	w.take(took)
	w.back = slices.Concat(back, w.back)
	w.lay(laid)
	w.now.steps++
	if len(w.back) == 0 {
		w.clean = append(w.clean, w.now)
	}
}

// near is the first units of what is left: those that rules see, and one at least.
func (w *walk) near() []int {
	most := max(1, w.plan.sees)
	l := slices.Clone(w.back[:min(most, len(w.back))])
	rest := w.text[w.now.taken:]
	for at, r := range rest {
		if len(l) == most {
			break
		}
		u := int(r)
		if r == utf8.RuneError {
			// It is that rune, or stands for a stray, which keeps its byte.
			u, _ = utf.First(rest[at:])
		}
		l = append(l, u)
	}
	return l
}

// take takes the first units of what is left.
func (w *walk) take(l []int) {
	n := min(len(l), len(w.back))
	w.back = w.back[n:]
	for _, u := range l[n:] {
		w.now.taken += utf.Width(u)
	}
}

// lay puts units behind what is done.
func (w *walk) lay(l []int) {
	for _, u := range l {
		bytes := utf.Put(u)
		w.laid = append(w.laid, bytes...)
		w.now.laid += len(bytes)
	}
	// The tail is a new one each time, as states that are behind keep theirs.
	tail := slices.Concat(w.now.tail, l)
	w.now.tail = slices.Clone(tail[max(0, len(tail)-w.plan.tails):])
}

// joined is the whole run: as the old one was, up to where this one went from, and behind where both meet. If they never do, each is at its end.
func (w *walk) joined() run {
	met, _ := w.across()
	return run{
		source: w.text,
		result: put(w.old.result, w.old.clean[w.from].laid, w.old.clean[met].laid, string(w.laid)),
		clean:  slices.Concat(w.old.clean[:w.from+1], w.clean, w.old.behind(met, w.now)),
	}
}
