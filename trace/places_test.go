package trace_test

import (
	"math"
	"testing"

	"respell/api"
	"respell/trace"
)

// to and from hold a place against where it is wanted on the other side.
func to(t *testing.T, l []api.Block, at, from, until int) {
	t.Helper()
	if x, y := trace.To(l, at); x != from || y != until {
		t.Errorf("%.300s: To(%d): %d %d; want %d %d", written(l), at, x, y, from, until)
	}
}

func from(t *testing.T, l []api.Block, at, from, until int) {
	t.Helper()
	if x, y := trace.From(l, at); x != from || y != until {
		t.Errorf("%.300s: From(%d): %d %d; want %d %d", written(l), at, x, y, from, until)
	}
}

// row of places from 0 on, with what is wanted of each.
type sought [][2]int

func toAll(t *testing.T, l []api.Block, want sought) {
	t.Helper()
	for at, x := range want {
		to(t, l, at, x[0], x[1])
	}
	to(t, l, len(want), 0, 0)
}

func fromAll(t *testing.T, l []api.Block, want sought) {
	t.Helper()
	for at, x := range want {
		from(t, l, at, x[0], x[1])
	}
	from(t, l, len(want), 0, 0)
}

func TestPlacesExamples(t *testing.T) { // P13.2, P13.3
	second := blocksOf(t, read(t, "a > ; b > xy ;"), "abc")
	to(t, second, 0, 0, 0)
	to(t, second, 1, 0, 0)
	to(t, second, 2, 2, 2)
	from(t, second, 0, 0, 1)
	from(t, second, 1, 1, 2)
	from(t, second, 2, 2, 2)
	third := blocksOf(t, read(t, "ab > b | c ; cd > e ;"), "abdx")
	to(t, third, 1, 0, 2)
	from(t, third, 1, 0, 3)
}

func TestPlacesOfAllKinds(t *testing.T) { // P13.2, P13.3: at each border, within each block, at the ends
	// Longer on either side, alike, and nothing of the result at the beginning, amidst and at the end.
	l := list(0, 2, 0, 0, 2, 3, 0, 3, 3, 6, 3, 5, 6, 8, 5, 5, 8, 9, 5, 6, 9, 11, 6, 6)
	toAll(t, l, sought{{0, 0}, {0, 0}, {0, 0}, {3, 3}, {3, 5}, {3, 5}, {5, 5}, {5, 5}, {5, 5}, {6, 6}, {6, 6}, {6, 6}})
	fromAll(t, l, sought{{0, 2}, {2, 3}, {2, 3}, {3, 3}, {3, 6}, {6, 8}, {9, 11}})
	// One block.
	toAll(t, list(0, 1, 0, 1), sought{{0, 0}, {1, 1}})
	fromAll(t, list(0, 1, 0, 1), sought{{0, 0}, {1, 1}})
	toAll(t, list(0, 3, 0, 4), sought{{0, 0}, {0, 4}, {0, 4}, {4, 4}})
	fromAll(t, list(0, 3, 0, 4), sought{{0, 0}, {0, 3}, {0, 3}, {0, 3}, {3, 3}})
}

func TestSeveralBordersAtOnePlace(t *testing.T) { // P13.3
	l := list(0, 1, 0, 0, 1, 3, 0, 0, 3, 4, 0, 2, 4, 5, 2, 2, 5, 7, 2, 2, 7, 8, 2, 2, 8, 9, 2, 3, 9, 10, 3, 3, 10, 12, 3, 3)
	fromAll(t, l, sought{{0, 3}, {3, 4}, {4, 8}, {9, 12}})
	toAll(t, l, sought{{0, 0}, {0, 0}, {0, 0}, {0, 0}, {2, 2}, {2, 2}, {2, 2}, {2, 2}, {2, 2}, {3, 3}, {3, 3}, {3, 3}, {3, 3}})
	// Nothing of the result at all.
	fromAll(t, list(0, 5, 0, 0), sought{{0, 5}})
	fromAll(t, list(0, 1, 0, 0, 1, 2, 0, 0, 2, 6, 0, 0), sought{{0, 6}})
	toAll(t, list(0, 1, 0, 0, 1, 3, 0, 0), sought{{0, 0}, {0, 0}, {0, 0}, {0, 0}})
}

func TestNoBlocks(t *testing.T) { // P13.2, P13.3, R3
	for _, l := range [][]api.Block{nil, {}, list(0, 1, 0, 1)[:0]} {
		for _, at := range []int{math.MinInt, -1, 0, 1, 2, math.MaxInt} {
			to(t, l, at, 0, 0)
			from(t, l, at, 0, 0)
		}
	}
}

func TestPlacesBesideTheBlocks(t *testing.T) { // P13.2, P13.3
	l := list(0, 2, 0, 3, 2, 3, 3, 5)
	for _, at := range []int{math.MinInt, math.MinInt + 1, -4, -3, -2, -1, 4, 5, 6, math.MaxInt - 1, math.MaxInt} {
		to(t, l, at, 0, 0)
	}
	for _, at := range []int{math.MinInt, math.MinInt + 1, -6, -5, -2, -1, 6, 7, math.MaxInt - 1, math.MaxInt} {
		from(t, l, at, 0, 0)
	}
	to(t, l, 3, 5, 5)
	from(t, l, 5, 3, 3)
}

func TestTheGreatestPlaces(t *testing.T) { // P13.2, P13.3, R1
	const most = math.MaxInt
	l := list(0, most, 0, most)
	for _, at := range []int{1, 2, most / 2, most - 1} {
		to(t, l, at, 0, most)
		from(t, l, at, 0, most)
	}
	to(t, l, most, most, most)
	from(t, l, most, most, most)
	to(t, l, math.MinInt, 0, 0)
	from(t, l, math.MinInt, 0, 0)
	l = list(0, 1, 0, most, 1, 2, most, most, 2, most, most, most)
	from(t, l, most, 1, most)
	from(t, l, most-1, 0, 1)
	to(t, l, most-1, most, most)
	to(t, l, 1, most, most)
	l = list(0, most-1, 0, 0, most-1, most, 0, 1)
	from(t, l, 0, 0, most-1)
	from(t, l, 1, most, most)
	to(t, l, most, 1, 1)
	to(t, l, most-1, 0, 0)
	// What a sum would hide that goes round.
	for _, l := range [][]api.Block{
		list(0, most, 0, 1, most, math.MinInt, 1, 2), list(0, 1, 0, most, 1, 2, most, math.MinInt), list(math.MinInt, 1, 0, 1), list(0, 1, math.MinInt, 1),
		list(0, math.MinInt, 0, 1), list(0, 1, 0, math.MinInt), list(0, most, 0, most, math.MinInt, 1, most, most), list(0, most, 0, most, most, most, math.MinInt, most),
	} {
		for _, at := range []int{math.MinInt, -1, 0, 1, 2, most - 1, most} {
			to(t, l, at, 0, 0)
			from(t, l, at, 0, 0)
		}
	}
}

// stretch is a block by how many bytes it has, and how many are left out ahead of it (below 0: twice there).
type stretch struct{ gapS, s, gapR, r int }

func laid(l []stretch) []api.Block {
	var out []api.Block
	var last api.Block
	for _, x := range l {
		s, r := last.S1+x.gapS, last.R1+x.gapR
		last = api.Block{S0: s, S1: s + x.s, R0: r, R1: r + x.r}
		out = append(out, last)
	}
	return out
}

// sound is stretches of blocks that join.
func sound() []stretch {
	return []stretch{{s: 1, r: 2}, {s: 2, r: 1}, {s: 1}, {s: 3, r: 3}, {s: 2, r: 2}}
}

// wrong is all ways in which one block of several, the first one, one amidst or the last one, is not as blocks that join have it.
func wrong() [][]api.Block {
	var out [][]api.Block
	for i, x := range sound() {
		for _, y := range []stretch{
			// A first block that does not begin at 0 and 0; gaps, overlaps.
			{1, x.s, 0, x.r}, {0, x.s, 1, x.r}, {1, x.s, 1, x.r}, {5, x.s, 0, x.r}, {0, x.s, 5, x.r},
			{-1, x.s, 0, x.r}, {0, x.s, -1, x.r}, {-1, x.s, -1, x.r}, {-1, x.s, 1, x.r}, {1, x.s, -1, x.r}, {-1, x.s + 1, 0, x.r}, {0, x.s, -1, x.r + 1},
			// S1 not above S0; R1 below R0.
			{0, 0, 0, x.r}, {0, 0, 0, 0}, {0, -1, 0, x.r}, {0, x.s, 0, -1}, {0, -1, 0, -1}, {0, 0, 0, -1}, {0, x.s, 0, -2},
		} {
			l := sound()
			l[i] = y
			out = append(out, laid(l), laid(l[:i+1]), laid(l[i:]))
		}
	}
	return out
}

func TestBlocksThatDoNotJoin(t *testing.T) { // P13.2, P13.3
	toAll(t, laid(sound()), sought{{0, 0}, {2, 2}, {2, 3}, {3, 3}, {3, 3}, {3, 6}, {3, 6}, {6, 6}, {6, 8}, {8, 8}})
	fromAll(t, laid(sound()), sought{{0, 0}, {0, 1}, {1, 1}, {3, 4}, {4, 7}, {4, 7}, {7, 7}, {7, 9}, {9, 9}})
	for _, l := range wrong() {
		for at := -8; at < 20; at++ {
			to(t, l, at, 0, 0)
			from(t, l, at, 0, 0)
		}
	}
	for i := range sound() {
		// The rest of blocks that join does not begin at 0 and 0, but for all of them.
		if l := laid(sound())[i:]; i > 0 {
			for at := -1; at < 12; at++ {
				to(t, l, at, 0, 0)
				from(t, l, at, 0, 0)
			}
		}
	}
}

// Each field of each block, with each of some numbers: what joins all the same is as the words say.
func TestBlocksWithAnyNumber(t *testing.T) { // P13.2, P13.3
	numbers := []int{math.MinInt, -2, -1, 0, 1, 2, 3, 4, 5, 6, 7, 8, 9, 10, math.MaxInt}
	for n := range len(sound()) {
		for i := range n + 1 {
			for field := range 4 {
				for _, x := range numbers {
					l := laid(sound()[:n+1])
					*[]*int{&l[i].S0, &l[i].S1, &l[i].R0, &l[i].R1}[field] = x
					for at := -2; at < 13; at++ {
						places(t, l, at)
					}
					places(t, l, math.MinInt)
					places(t, l, math.MaxInt)
				}
			}
		}
	}
}
