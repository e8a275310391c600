package set_test

import (
	"math"
	"slices"

	"respell/api"
)

// What the chapter says of sets, worked out anew unit by unit, so that the tests don't lean on the package's way to reckon with ranges.

const beyond = 0x110110 // above all units

func unitByWords(u int) bool {
	return u >= 0 && u <= 0xD7FF || u >= 0xE000 && u <= 0x10FFFF || u >= 0x110080 && u <= 0x1100FF
}

func runeByWords(u int) bool { return unitByWords(u) && u <= 0x10FFFF }

// crowd says of each number whether it is in.
type crowd []bool

func crowdOf(l []api.Range) crowd {
	in := make(crowd, beyond)
	for _, r := range l {
		for u := max(0, r.Lo); u <= min(r.Hi, beyond-1); u++ {
			in[u] = unitByWords(u)
		}
	}
	return in
}

// ranges is the one row of a crowd's ranges.
func (in crowd) ranges() api.Set {
	var s api.Set
	for u := range in {
		switch {
		case in[u] && (u == 0 || !in[u-1]):
			s = append(s, api.Range{Lo: u, Hi: u})
		case in[u]:
			s[len(s)-1].Hi = u
		}
	}
	return s
}

func (in crowd) list() []int {
	var l []int
	for u, is := range in {
		if is {
			l = append(l, u)
		}
	}
	return l
}

func merge(a, b crowd, is func(u int, inA, inB bool) bool) crowd {
	out := make(crowd, beyond)
	for u := range out {
		out[u] = unitByWords(u) && is(u, a[u], b[u])
	}
	return out
}

func of(n ...int) api.Set {
	var s api.Set
	for i := 0; i+1 < len(n); i += 2 {
		s = append(s, api.Range{Lo: n[i], Hi: n[i+1]})
	}
	return s
}

// every is n ranges of width units, with gap numbers between them.
func every(first, n, width, gap int) api.Set {
	var s api.Set
	for i := range n {
		lo := first + i*(width+gap)
		s = append(s, api.Range{Lo: lo, Hi: lo + width - 1})
	}
	return s
}

var (
	none   = api.Set(nil)
	runes  = of(0, 0xD7FF, 0xE000, 0x10FFFF)
	strays = of(0x110080, 0x1100FF)
	units  = of(0, 0xD7FF, 0xE000, 0x10FFFF, 0x110080, 0x1100FF)
)

// sets are sets of all sorts.
var sets = []api.Set{
	none, runes, strays, units,
	of(0, 0), of(0, 0x60), of(0x61, 0x63), of(0x61, 0x66), of(0x63, 0x70), of(0x61, 0x63, 0x65, 0x65), of(0x61, 0x63, 0x71, 0x71), of(0x64, 0x64),
	of(0xD7FF, 0xD7FF), of(0xE000, 0xE000), of(0xD7FF, 0xD7FF, 0xE000, 0xE000), of(0xD700, 0xD7FF, 0xE000, 0xE100),
	of(0x10FFFF, 0x10FFFF), of(0x110080, 0x110080), of(0x1100FF, 0x1100FF), of(0x10FFF0, 0x10FFFF, 0x110080, 0x110090),
	of(0, 0, 0xD7FF, 0xD7FF, 0xE000, 0xE000, 0x10FFFF, 0x10FFFF, 0x110080, 0x110080, 0x1100FF, 0x1100FF),
	of(1, 0xD7FE, 0xE001, 0x10FFFE, 0x110081, 0x1100FE),
	every(0, 512, 1, 1), every(1, 512, 1, 1), every(0, 511, 2, 1), every(5, 300, 3, 7),
}

// noSets are rows that are none, each for one reason.
var noSets = []api.Set{
	of(0x63, 0x61),                   // Lo above Hi
	of(5, 4),                         // the same, by one
	of(0x61, 0x63, 0x64, 0x65),       // they touch
	of(0x61, 0x63, 0x63, 0x65),       // they overlap
	of(0x61, 0x63, 0x61, 0x63),       // the same twice
	of(0x71, 0x73, 0x61, 0x63),       // falling
	of(0x61, 0x63, 0x70, 0x60),       // the last one has Lo above Hi
	of(-1, 3), of(-5, -2), of(-1, 0), // below all units
	of(0xD800, 0xD800), of(0xDFFF, 0xDFFF), of(0xD7FF, 0xE000), of(0xD000, 0xD800), of(0xDFFF, 0xE001), of(0, 0x10FFFF),
	of(0x110000, 0x110000), of(0x11007F, 0x110080), of(0x10FFFF, 0x110080), of(0x10FFFF, 0x110000), of(0xE000, 0x1100FF),
	of(0x110100, 0x110100), of(0x1100FF, 0x110100),
	of(math.MinInt, math.MaxInt), of(math.MaxInt, math.MinInt), of(math.MinInt, 5), of(5, math.MaxInt), of(math.MaxInt, math.MaxInt), of(math.MinInt, math.MinInt),
	of(0x61, 0x63, math.MinInt, math.MaxInt), of(0x61, 0x63, math.MaxInt, math.MaxInt), of(0x61, math.MaxInt, math.MinInt, 0x63),
	of(0x61+1<<32, 0x63+1<<32), // units, if the upper bits were lost
	every(0, 513, 1, 1), every(0, 2000, 2, 3),
	slices.Concat(every(0, 512, 1, 1), of(0x110080, 0x110081)),
}

// edges are numbers at which something changes, and their neighbours.
var edges = []int{
	math.MinInt, math.MinInt + 1, -1 << 32, -2, -1, 0, 1, 2, 0x60, 0x61, 0x62, 0x63, 0x64,
	0xD7FE, 0xD7FF, 0xD800, 0xD801, 0xDFFE, 0xDFFF, 0xE000, 0xE001,
	0x10FFFE, 0x10FFFF, 0x110000, 0x110001, 0x11007F, 0x110080, 0x110081, 0x1100FE, 0x1100FF, 0x110100, 0x110101,
	1 << 32, 1<<32 + 0x61, math.MaxInt - 1, math.MaxInt,
}
