package turn

import (
	"slices"

	"respell/api"
	"respell/rule"
	"respell/set"
)

// check tells whether the ways of a pass can be gone back; if not, which rule stands in the way, and why.
func check(l []way) (int, api.Errno) {
	middle := core(l)
	for n, w := range l {
		if e := w.wrong(middle); e != api.OK {
			return n, e
		}
	}
	for j, w := range l {
		for _, ahead := range l[:j] {
			if e := clash(ahead, w); e != api.OK {
				return j, e
			}
		}
	}
	return 0, api.OK
}

// wrong is why a way can't be gone back, of what is asked of it alone and of the core of the whole pass; OK: nothing is.
func (w way) wrong(core api.Set) api.Errno {
	switch {
	case len(w.image) == 0 || w.Cursor < len(w.image) || anyMeets(w.image, set.Strays()):
		return api.ErrTurnResult
	case len(w.image) > api.MaxKey:
		return api.ErrTurnMany
	case !w.tells():
		return api.ErrTurnTwice
	case anyMeets(w.Ante, core) || anyMeets(w.Post, core):
		return api.ErrTurnContext
	}
	return api.OK
}

// tells tells whether what is written tells, once, what stood at each place of the key.
func (w way) tells() bool {
	for place, s := range w.Key {
		if !lone(s) && len(w.speakers(place)) != 1 {
			return false
		}
	}
	return true
}

// clash is why it is not sure which of two ways is to be gone back; OK: it is, or both are one way back.
func clash(a, b way) api.Errno {
	n := min(len(a.image), len(b.image))
	switch {
	case !slices.EqualFunc(a.image[:n], b.image[:n], meet):
		return api.OK
	case len(a.image) != len(b.image):
		return api.ErrTurnPrefix
	case !alike(a.Rule, b.Rule):
		return api.ErrTurnTwice
	}
	return api.OK
}

// alike tells whether two rules are the same, but for where they fit.
func alike(a, b api.Rule) bool {
	return rule.Same(api.Rule{Key: a.Key, Result: a.Result}, api.Rule{Key: b.Key, Result: b.Result})
}
