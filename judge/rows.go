package judge

import (
	"slices"

	"respell/api"
	"respell/set"
	"respell/utf"
)

// rows is on its way through all rows of some units: shorter ones come first, then those whose first unit that is unlike is smaller. So it counts up, with a digit for each place of a row.
type rows struct {
	units  []int // rising: a digit is a place in them
	most   int   // of units in a row
	digits []int // of the row where it stands
}

// newRows stands at the empty row.
func newRows(over api.Set, most int) *rows {
	units := slices.AppendSeq(make([]int, 0, set.Len(over)), set.All(over))
	return &rows{units: units, most: most}
}

// row is the units where it stands.
func (r *rows) row() []int {
	l := make([]int, 0, len(r.digits))
	for _, d := range r.digits {
		l = append(l, r.units[d])
	}
	return l
}

// text is what a row's units are one behind the other; false: that has other units.
func (r *rows) text() (string, bool) {
	l := r.row()
	if !utf.Proper(l) {
		return "", false
	}
	s, _ := utf.Join(l)
	return s, true
}

// next goes on to the next row; false: there is none.
func (r *rows) next() bool {
	at := len(r.digits)
carry:
	if at == 0 {
		return r.longer()
	}
	at--
	r.digits[at]++
	if r.digits[at] == len(r.units) {
		goto carry
	}
	// The digits that were carried from stand one too high, and begin anew.
	clear(r.digits[at+1:])
	return true
}

// longer goes on to the first row that has a unit more; false: there is none.
func (r *rows) longer() bool {
	if len(r.digits) == r.most || len(r.units) == 0 {
		return false
	}
	r.digits = append(r.digits, 0)
	clear(r.digits)
	return true
}
