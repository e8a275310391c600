package trace_test

import (
	"math"
	"slices"
	"testing"

	"respell/api"
	"respell/trace"
)

// leads holds what is joined of two lists of blocks against what is wanted.
func leads(t *testing.T, a, b, want []api.Block) {
	t.Helper()
	if got, e := trace.Through(a, b); e != api.OK || !slices.Equal(got, want) {
		t.Errorf("%.200s through %.200s: %.200s, %d; want %.200s", written(a), written(b), written(got), e, written(want))
	}
}

// parts holds that two lists of blocks are not joined.
func parts(t *testing.T, a, b []api.Block) {
	t.Helper()
	if got, e := trace.Through(a, b); e != api.ErrArg || len(got) != 0 {
		t.Errorf("%.200s through %.200s: %.200s, %d; want ErrArg", written(a), written(b), written(got), e)
	}
}

func TestThroughExamples(t *testing.T) { // P13.4
	leads(t, list(0, 1, 0, 0, 1, 2, 0, 1), list(0, 1, 0, 2), list(0, 1, 0, 0, 1, 2, 0, 2))
	leads(t, list(0, 1, 0, 1, 1, 2, 1, 2), list(0, 2, 0, 1), list(0, 2, 0, 1))
	parts(t, list(0, 2, 0, 1), list(0, 1, 0, 1, 1, 2, 1, 2))
}

func TestBordersThatMeet(t *testing.T) { // P13.4
	for _, x := range [][3][]api.Block{
		// All of them, some, the last ones alone.
		{list(0, 2, 0, 1, 2, 3, 1, 4), list(0, 1, 0, 5, 1, 4, 5, 6), list(0, 2, 0, 5, 2, 3, 5, 6)},
		{list(0, 1, 0, 1, 1, 2, 1, 3, 2, 5, 3, 4), list(0, 3, 0, 2, 3, 4, 2, 7), list(0, 2, 0, 2, 2, 5, 2, 7)},
		{list(0, 2, 0, 4), list(0, 1, 0, 1, 1, 3, 1, 1, 3, 4, 1, 9), list(0, 2, 0, 9)},
		{list(0, 1, 0, 2, 1, 2, 2, 4), list(0, 1, 0, 1, 1, 3, 1, 2, 3, 4, 2, 3), list(0, 2, 0, 3)},
		{list(0, 1, 0, 1, 1, 2, 1, 3, 2, 3, 3, 6), list(0, 1, 0, 2, 1, 2, 2, 2, 2, 5, 2, 4, 5, 6, 4, 8), list(0, 1, 0, 2, 1, 3, 2, 8)},
		// Of the source's side of the second one a number may stand on the result's side too: that is no border to meet.
		{list(0, 1, 0, 2, 1, 2, 2, 3), list(0, 3, 0, 2), list(0, 2, 0, 2)},
		{list(0, 2, 0, 1, 2, 3, 1, 3), list(0, 2, 0, 1, 2, 3, 1, 2), list(0, 3, 0, 2)},
	} {
		leads(t, x[0], x[1], x[2])
	}
}

func TestThroughNothing(t *testing.T) { // P13.4: blocks with nothing of the result, on either side
	for _, x := range [][3][]api.Block{
		// Several borders of the first one meet one of the second one.
		{list(0, 1, 0, 0, 1, 2, 0, 0, 2, 3, 0, 1), list(0, 1, 0, 1), list(0, 1, 0, 0, 1, 2, 0, 0, 2, 3, 0, 1)},
		{list(0, 1, 0, 1, 1, 2, 1, 1, 2, 4, 1, 1, 4, 5, 1, 2), list(0, 1, 0, 3, 1, 2, 3, 4), list(0, 1, 0, 3, 1, 2, 3, 3, 2, 4, 3, 3, 4, 5, 3, 4)},
		{list(0, 1, 0, 1, 1, 2, 1, 1, 2, 4, 1, 1, 4, 5, 1, 2), list(0, 2, 0, 3), list(0, 5, 0, 3)},
		{list(0, 1, 0, 2, 1, 3, 2, 2), list(0, 2, 0, 0), list(0, 1, 0, 0, 1, 3, 0, 0)},
		{list(0, 1, 0, 1, 1, 2, 1, 2), list(0, 1, 0, 0, 1, 2, 0, 0), list(0, 1, 0, 0, 1, 2, 0, 0)},
		{list(0, 1, 0, 1, 1, 2, 1, 2, 2, 3, 2, 3), list(0, 1, 0, 0, 1, 2, 0, 4, 2, 3, 4, 4), list(0, 1, 0, 0, 1, 2, 0, 4, 2, 3, 4, 4)},
		// No block on one side, on both.
		{list(0, 1, 0, 0), nil, list(0, 1, 0, 0)},
		{list(0, 1, 0, 0, 1, 4, 0, 0), nil, list(0, 1, 0, 0, 1, 4, 0, 0)},
		{list(0, 1, 0, 0, 1, 4, 0, 0), {}, list(0, 1, 0, 0, 1, 4, 0, 0)},
		{nil, nil, nil}, {{}, nil, nil}, {nil, {}, nil}, {{}, {}, nil},
	} {
		leads(t, x[0], x[1], x[2])
	}
}

func TestThroughOfEndsThatDoNotFit(t *testing.T) { // P13.4
	for _, x := range [][2][]api.Block{
		{nil, list(0, 1, 0, 1)}, {nil, list(0, 1, 0, 0)}, {list(0, 1, 0, 1), nil}, {list(0, 1, 0, 0, 1, 2, 0, 1), nil}, {list(0, 1, 0, 0), list(0, 1, 0, 0)},
		{list(0, 1, 0, 1), list(0, 2, 0, 1)}, {list(0, 1, 0, 2), list(0, 1, 0, 1)}, {list(0, 1, 0, 1, 1, 2, 1, 2), list(0, 1, 0, 1)}, {list(0, 1, 0, 1), list(0, 1, 0, 1, 1, 2, 1, 2)},
		{list(0, 2, 0, 1), list(0, 2, 0, 1)}, {list(0, 1, 0, 2), list(0, 1, 0, 2)}, {list(0, 1, 0, math.MaxInt), list(0, math.MaxInt-1, 0, 1)},
	} {
		parts(t, x[0], x[1])
	}
}

// bytewise is blocks of one byte each.
func bytewise(n int) []api.Block {
	var l []api.Block
	for i := range n {
		l = append(l, api.Block{S0: i, S1: i + 1, R0: i, R1: i + 1})
	}
	return l
}

func TestThroughOfBlocksThatDoNotJoin(t *testing.T) { // P13.4: on either side, and on both
	good := laid(sound())
	leads(t, good, bytewise(8), good)
	for _, l := range wrong() {
		last := l[len(l)-1]
		for _, n := range []int{last.S1, last.R1, len(good), 8} {
			// The other side fits, as far as ends go.
			parts(t, l, bytewise(max(n, 0)))
			parts(t, bytewise(max(n, 0)), l)
		}
		parts(t, l, nil)
		parts(t, nil, l)
		parts(t, l, good)
		parts(t, good, l)
		parts(t, l, l)
		if last.S1 > 0 && last.R1 >= 0 {
			parts(t, l, list(0, max(last.R1, 1), 0, 1))
			parts(t, list(0, 1, 0, last.S1), l)
		}
	}
}

func TestThroughTheGreatestNumbers(t *testing.T) { // P13.4, R1
	const most = math.MaxInt
	leads(t, list(0, most, 0, most), list(0, most, 0, most), list(0, most, 0, most))
	leads(t, list(0, 1, 0, most-1, 1, most, most-1, most), list(0, most-1, 0, 2, most-1, most, 2, most), list(0, 1, 0, 2, 1, most, 2, most))
	leads(t, list(0, 1, 0, most, 1, 2, most, most), list(0, most, 0, 0), list(0, 1, 0, 0, 1, 2, 0, 0))
	for _, l := range [][]api.Block{list(0, most, 0, 1, most, math.MinInt, 1, 2), list(0, math.MinInt, 0, 1), list(0, 1, 0, math.MinInt), list(math.MinInt, most, 0, 1), list(0, 1, math.MinInt, most)} {
		for _, n := range []int{1, 2, most} {
			parts(t, l, list(0, n, 0, 1))
			parts(t, list(0, 1, 0, n), l)
		}
	}
}

func TestThroughOfRuns(t *testing.T) { // P13.4: the second pass over what the first one made
	for _, x := range []struct{ first, second, text, want string }{
		{"a > ", "€ > E", "\xE2a\x82\xAC", "{0 4 0 1}"},
		{"a > \\b{C3} ; b > \\b{A9}", "", "ab", "{0 2 0 2}"},
		{"a > \\b{C3} ; b > \\b{A9}", "é > xyz", "cabc", "{0 1 0 1} {1 3 1 4} {3 4 4 5}"},
		{"a > bb", "b > ", "ac", "{0 1 0 0} {1 2 0 1}"},
		{"a > bb", "bb > x", "aca", "{0 1 0 1} {1 2 1 2} {2 3 2 3}"},
		{"a > b", "bb > x", "aaa", "{0 2 0 1} {2 3 1 2}"},
		{"a > ", "b > ", "aba", "{0 1 0 0} {1 2 0 0} {2 3 0 0}"},
	} {
		first := read(t, x.first)
		ahead := blocksOf(t, first, x.text)
		middle := goesByWords(first, x.text).result
		if l, e := trace.Through(ahead, blocksOf(t, read(t, x.second), middle)); e != api.OK || written(l) != x.want {
			t.Errorf("%s then %s over %q: %s, %d; want %s", x.first, x.second, x.text, written(l), e, x.want)
		}
	}
}
