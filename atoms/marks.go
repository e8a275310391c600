package atoms

import "slices"

// wordSets is how many sets a word has marks for.
const wordSets = 64

// noSets is the number of the pair without any marks, and so of no sets at all, however many pairs stand above one another.
const noSets = 0

// A pair tells which of some sets a unit is in: two words, a bit for each set; or, of more sets, the numbers of the pairs of both halves. So pairs that stand equally high are the same just if their sets are, however many these are, and a turn of one set makes few new ones.
type pair struct{ left, right uint64 }

// marks are the pairs that there are, by their numbers.
type marks struct {
	pairs []pair
	high  int // how many pairs stand above one another
}

// has tells whether the n-th set is one of those of a pair's number.
func (m *marks) has(which uint64, n int) bool {
	word := n / wordSets
	for level := m.high - 1; level >= 0; level-- {
		p := m.pairs[which]
		which = p.left
		if word>>level&1 == 1 {
			which = p.right
		}
	}
	return which>>(n%wordSets)&1 == 1
}

// A tally holds which sets have the units at the place that it has come to.
type tally struct {
	marks
	rows    [][]uint64 // the words; above each row the numbers of its pairs; at last a row of one
	numbers map[pair]uint64
	touched []int // what a turn touches in a row, kept for its room
}

func newTally(sets int) *tally {
	words := (sets + wordSets - 1) / wordSets
	t := &tally{numbers: map[pair]uint64{{}: noSets}}
	t.pairs = []pair{{}}
	for t.high == 0 || words > 1 {
		pairs := (words + 1) / 2
		t.rows = append(t.rows, make([]uint64, 2*pairs))
		t.high++
		words = pairs
	}
	t.rows = append(t.rows, make([]uint64, 1))
	return t
}

// flip turns the marks of some sets, which rise, at one place.
func (t *tally) flip(l []turn) {
	t.touched = t.touched[:0]
	for _, x := range l {
		t.rows[0][x.set/wordSets] ^= 1 << (x.set % wordSets)
		t.touched = append(t.touched, x.set/wordSets)
	}
	for level, below := range t.rows[:t.high] {
		for i := range t.touched {
			t.touched[i] /= 2
		}
		t.touched = slices.Compact(t.touched)
		for _, i := range t.touched {
			t.rows[level+1][i] = t.number(pair{below[2*i], below[2*i+1]})
		}
	}
}

// number is that of a pair: the one that it has, or the next one.
func (t *tally) number(p pair) uint64 {
	n, known := t.numbers[p]
	if !known {
		n = uint64(len(t.pairs))
		t.numbers[p] = n
		t.pairs = append(t.pairs, p)
	}
	return n
}

// which is the number of the pair that tells of all sets.
func (t *tally) which() uint64 { return t.rows[t.high][0] }
