// Package utf is layer 1: bytes as units, both ways: see shared/doc/01-utf.md.
package utf

import (
	"iter"
	"slices"
	"strings"
	"unicode/utf8"

	"respell/api"
)

// reach is how many bytes of one rune can stand on the same side of a place within it.
const reach = utf8.UTFMax - 1

// spelling is how runes from lo to hi are written in several bytes: so many, the first of them lead plus the upper bits.
type spelling struct{ lead, width, lo, hi int }

// Three bytes stand here twice: the numbers from D800 to DFFF, which are no runes, part them.
var spellings = [...]spelling{
	{0xC0, 2, 0x80, 0x7FF},
	{0xE0, 3, 0x800, 0xD7FF},
	{0xE0, 3, 0xE000, 0xFFFF},
	{0xF0, 4, 0x10000, api.MaxRune},
}

// First is the unit with which a text begins, and its width. (0 and 0: it has none.)
func First(s string) (int, int) {
	for _, u := range All(s) {
		return u, Width(u)
	}
	return 0, 0
}

// Last is the unit with which a text ends, and its width. (0 and 0: it has none.)
func Last(s string) (int, int) {
	// The last few bytes are enough: no rune is longer, and a rune's first byte never stands within another one, so that a cut within a rune hides none behind it.
	tail := s[max(0, len(s)-utf8.UTFMax):]
	unit, width := 0, 0
	for at, u := range All(tail) {
		unit, width = u, len(tail)-at
	}
	return unit, width
}

// Width is how many bytes a unit has; 0: it is none.
func Width(u int) int {
	switch {
	case isStray(u):
		return 1
	case isRune(u):
		return utf8.RuneLen(rune(u))
	}
	return 0
}

// Put is a unit's bytes.
func Put(u int) string {
	switch {
	case isStray(u):
		return string([]byte{byte(u - api.Stray)})
	case isRune(u):
		return string(rune(u))
	}
	return ""
}

func isStray(u int) bool {
	return api.Stray+0x80 <= u && u <= api.Stray+0xFF
}

func isRune(u int) bool {
	// The bounds come first: as a rune, a great number would lose its upper bits.
	return 0 <= u && u <= api.MaxRune && utf8.ValidRune(rune(u))
}

// All gives a text's units, with their places.
func All(s string) iter.Seq2[int, int] {
	return func(yield func(int, int) bool) {
		for at, r := range s {
			if !yield(at, unitAt(s, at, r)) {
				return
			}
		}
	}
}

// unitAt is the unit at a place where a range over s tells r. It tells FFFD of a stray as well as of the rune FFFD: the bytes alone hold them apart.
func unitAt(s string, at int, r rune) int {
	if r == utf8.RuneError && !strings.HasPrefix(s[at:], "\uFFFD") {
		return api.Stray + int(s[at])
	}
	return int(r)
}

// Back gives a text's units, with their places, from the end on.
func Back(s string) iter.Seq2[int, int] {
	return func(yield func(int, int) bool) {
		end := len(s)
		for end > 0 {
			u, width := Last(s[:end])
			end -= width
			if !yield(end, u) {
				return
			}
		}
	}
}

// Cut is a text's units.
func Cut(s string) []int {
	var l []int
	for _, u := range All(s) {
		l = append(l, u)
	}
	return l
}

// Join is the text of units.
func Join(l []int) (string, api.Errno) {
	var text strings.Builder
	for _, u := range l {
		if Width(u) == 0 {
			return "", api.ErrUtfUnit
		}
		text.WriteString(Put(u))
	}
	return text.String(), api.OK
}

// Proper tells whether units are a text's.
func Proper(l []int) bool {
	s, err := Join(l)
	return err == api.OK && slices.Equal(Cut(s), l)
}

// Border tells whether a place is at an end of a text, or between two units of it.
func Border(s string, at int) bool {
	if at < 0 || at > len(s) {
		return false
	}
	// A rune around the place lies whole within reach of it, and one that is seen there is one of the text too.
	from, to := max(0, at-reach), min(len(s), at+reach)
	for place := range All(s[from:to]) {
		if from+place == at {
			return true
		}
	}
	return at == len(s)
}

// Open tells how many bytes at a text's end may yet become a rune with what comes, and of which runes: from lo to hi. (0: none.)
func Open(s string) (n, lo, hi int) {
	for at, u := range Back(s) {
		head := s[at:]
		if !isStray(u) || len(head) > reach {
			break
		}
		for _, w := range spellings {
			if least, most := begun(head, w); least <= most {
				return len(head), least, most
			}
		}
	}
	return 0, 0, 0
}

// begun is the least and the greatest of a spelling's runes whose bytes head begins, but does not end; if there are none, the least is above the greatest.
func begun(head string, w spelling) (int, int) {
	if len(head) >= w.width || int(head[0]) < w.lead {
		return 1, 0
	}
	// A first byte that is too great for this spelling makes numbers above w.hi.
	bits := int(head[0]) - w.lead
	for _, b := range []byte(head[1:]) {
		if utf8.RuneStart(b) {
			return 1, 0
		}
		bits = bits<<6 | int(b&0x3F)
	}
	open := 6 * (w.width - len(head))
	return max(w.lo, bits<<open), min(w.hi, (bits+1)<<open-1)
}
