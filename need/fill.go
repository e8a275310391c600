package need

import (
	"slices"

	"respell/api"
	"respell/set"
	"respell/utf"
)

// place is what may stand at a place of a text.
type place interface {
	// in is units of a set that may stand there: if one may, then one with which as much may stand behind it.
	in(s api.Set) []int
}

// runes is a place for some runes. Behind each of them anything may stand, so that one of them is enough.
type runes api.Set

func (p runes) in(s api.Set) []int {
	both, _ := set.Meet(s, api.Set(p))
	if len(both) == 0 {
		return nil
	}
	return []int{both[0].Lo}
}

// strays is a place for strays behind a text: for those that make no rune with its last bytes.
type strays string

func (p strays) in(s api.Set) []int {
	var l []int
	both, _ := set.Meet(s, set.Strays())
	for u := range set.All(both) {
		if utf.Border(string(p)+utf.Put(u), len(p)) {
			l = append(l, u)
		}
	}
	return l
}

// row is a text that may come, as far as it is made.
type row struct {
	text string
	next []place // what may stand behind it
	gap  gap
}

// gap is the bytes that would make a rune of the last ones of a text: all from the least to the most. What may stand behind the text hangs on these alone.
type gap struct{ least, most string }

// from is a text that goes on with any units that it lets stand behind it.
func from(text string) row {
	r := row{text: text, next: []place{runes(set.Runes()), strays(text)}}
	if n, lo, hi := utf.Open(text); n > 0 {
		r.gap = gap{utf.Put(lo)[n:], utf.Put(hi)[n:]}
	}
	return r
}

// fill is a text that begins with a row, and goes on with units that stand at sets; false: there is none.
func fill(r row, sets []api.Set) (string, bool) {
	front := []row{r}
	for _, s := range sets {
		front = longer(front, s)
	}
	if len(front) == 0 {
		return "", false
	}
	return front[0].text, true
}

// longer is rows with one more unit, of a set: of those behind which the same may stand, one.
func longer(front []row, s api.Set) []row {
	var l []row
	for _, r := range front {
		for _, u := range r.units(s) {
			x := from(r.text + utf.Put(u))
			if x.gap == (gap{}) {
				// Behind this one anything may stand, so that no other one is needed.
				return []row{x}
			}
			if !slices.ContainsFunc(l, func(o row) bool { return o.gap == x.gap }) {
				l = append(l, x)
			}
		}
	}
	return l
}

// units is the units of a set that may stand behind a row, as far as they are needed.
func (r row) units(s api.Set) []int {
	var l []int
	for _, p := range r.next {
		l = append(l, p.in(s)...)
	}
	return l
}
