package edit

import "respell/api"

// put is a text with other bytes in the place of those from from to to.
func put(s string, from, to int, b string) string {
	l := make([]byte, len(s)-(to-from)+len(b))
	copy(l, s[:from])
	copy(l[from:], b)
	copy(l[from+len(b):], s[to:])
	return string(l)
}

// changed is which bytes of an old result became which ones of a new one.
func changed(o, n string) api.Block {
	x := beginAlike(o, n)
	// What is in common at the beginning is not told once more as the end.
	y := endAlike(o[x:], n[x:])
	return api.Block{S0: x, S1: len(o) - y, R0: x, R1: len(n) - y}
}

// beginAlike is how many bytes two texts have in common at their beginning.
func beginAlike(a, b string) int {
	n := 0
	for n < len(a) && n < len(b) && a[n] == b[n] {
		n++
	}
	return n
}

// endAlike is how many bytes two texts have in common at their end.
func endAlike(a, b string) int {
	n := 0
	for n < len(a) && n < len(b) && a[len(a)-1-n] == b[len(b)-1-n] {
		n++
	}
	return n
}
