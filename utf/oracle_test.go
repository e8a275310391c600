package utf_test

import "respell/api"

// What the chapter's table 'Units' says, worked out anew, so that the tests lean neither on the package nor on the library's own decoder.

func runeByTable(u int) bool {
	return u >= 0 && u <= 0x10FFFF && !(u >= 0xD800 && u <= 0xDFFF)
}

func strayByTable(u int) bool { return u >= 0x110080 && u <= 0x1100FF }

func bytesByTable(u int) string {
	low := func(from int) byte { return byte(0x80 + u>>from&0x3F) }
	switch {
	case strayByTable(u):
		return string([]byte{byte(u - 0x110000)})
	case !runeByTable(u):
		return ""
	case u <= 0x7F:
		return string([]byte{byte(u)})
	case u <= 0x7FF:
		return string([]byte{byte(0xC0 + u>>6), low(0)})
	case u <= 0xFFFF:
		return string([]byte{byte(0xE0 + u>>12), low(6), low(0)})
	}
	return string([]byte{byte(0xF0 + u>>18), low(12), low(6), low(0)})
}

// numberOf reads the bits of n bytes as if they were those of a rune.
func numberOf(s string) int {
	if len(s) == 1 {
		return int(s[0])
	}
	u := int(s[0]) & (0x7F >> len(s))
	for i := 1; i < len(s); i++ {
		u = u<<6 | int(s[i]&0x3F)
	}
	return u
}

func firstByTable(s string) (int, int) {
	for n := 1; n <= 4 && n <= len(s); n++ {
		if u := numberOf(s[:n]); runeByTable(u) && bytesByTable(u) == s[:n] {
			return u, n
		}
	}
	return api.Stray + int(s[0]), 1
}

// unitsByTable is a text's places and units, from its beginning on.
func unitsByTable(s string) (places, units []int) {
	for at := 0; at < len(s); {
		u, n := firstByTable(s[at:])
		places, units = append(places, at), append(units, u)
		at += n
	}
	return places, units
}

// edges are the bytes at which the spelling of runes changes.
var edges = []byte{
	0x00, 0x61, 0x7F, 0x80, 0x82, 0x8F, 0x90, 0x9F, 0xA0, 0xBD, 0xBF, 0xC0, 0xC1, 0xC2, 0xC3, 0xDF,
	0xE0, 0xE1, 0xE2, 0xED, 0xEE, 0xEF, 0xF0, 0xF1, 0xF4, 0xF5, 0xF8, 0xFF,
}

// pieces are runes of all widths, FFFD among them, and their beginnings, ends and forbidden forms.
var pieces = []string{
	"a", "\x00", "é", "€", "\uFFFD", "😀", "\x80", "\xBF", "\xC3", "\xE2\x82", "\xEF\xBF", "\xF0\x9F", "\xF0\x9F\x98",
	"\xC0\x80", "\xED\xA0\x80", "\xF4\x90\x80\x80", "\xFF",
}

// rows gives every row of up to most of the parts, the empty one too.
func rows(parts []string, most int, give func(string)) {
	give("")
	if most == 0 {
		return
	}
	for _, p := range parts {
		rows(parts, most-1, func(rest string) { give(p + rest) })
	}
}

func each(l []byte) []string {
	var out []string
	for _, b := range l {
		out = append(out, string([]byte{b}))
	}
	return out
}

// texts gives many texts: all short ones of edges, rows of pieces, and long ones.
func texts(give func(string)) {
	rows(each(edges), 3, give)
	rows(pieces, 3, give)
	x := uint32(1)
	for range 2000 {
		var b []byte
		for range 40 {
			x = x*1664525 + 1013904223
			if x>>31 == 0 {
				b = append(b, edges[int(x>>8)%len(edges)])
			} else {
				b = append(b, pieces[int(x>>8)%len(pieces)]...)
			}
		}
		give(string(b))
	}
}
