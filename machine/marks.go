package machine

import "math/bits"

// wordMarks is how many marks a word has.
const wordMarks = 64

// marks tell which numbers there are: a bit for each.
type marks []uint64

func (m marks) add(n int) { m[n/wordMarks] |= 1 << (n % wordMarks) }

func (m marks) has(n int) bool { return m[n/wordMarks]>>(n%wordMarks)&1 == 1 }

// all gives the numbers that there are.
func (m marks) all(yield func(int) bool) {
	for i, word := range m {
		for ; word != 0; word &= word - 1 {
			if !yield(i*wordMarks + bits.TrailingZeros64(word)) {
				return
			}
		}
	}
}
