package trace_test

import (
	"slices"
	"strings"
	"testing"

	"respell/api"
	"respell/pass"
	"respell/trace"
	"respell/utf"
)

// What follows of the chapter's promises: P13.5 (W7), P13.6, P13.7.

// parted holds that the blocks of a run part its source and its result, and tells both them and the result.
func parted(t *testing.T, p api.Pass, text string) ([]api.Block, string) {
	t.Helper()
	l := blocksOf(t, p, text)
	result, e := pass.Run(p, text)
	if _, joins := bordersByWords(l); e != api.OK || !joins || end(l) != (pair{len(text), len(result)}) {
		t.Fatalf("%v over %.60q: %.300s of %d and %d bytes", p, text, written(l), len(text), len(result))
	}
	var source, made strings.Builder
	for _, b := range l {
		source.WriteString(text[b.S0:b.S1])
		made.WriteString(result[b.R0:b.R1])
		if !utf.Border(text, b.S0) || !utf.Border(text, b.S1) {
			t.Errorf("%v over %.60q: %v ends within a unit", p, text, b)
		}
	}
	if source.String() != text || made.String() != result {
		t.Errorf("%v over %.60q: %.300s are not all of both", p, text, written(l))
	}
	return l, result
}

func TestWithoutGaps(t *testing.T) { // P13.5
	m := made(205)
	over, touched := 0, 0
	for range 4000 {
		p, text := m.fine(12), m.text(40)
		l, result := parted(t, p, text)
		x := goesByWords(p, text)
		for _, b := range x.untouched {
			if !slices.Contains(l, b) || text[b.S0:b.S1] != result[b.R0:b.R1] || len(utf.Cut(text[b.S0:b.S1])) != 1 {
				t.Errorf("%v over %q: %v of %s", p, text, b, written(l))
			}
		}
		over += len(x.untouched)
		touched += len(x.blocks) - len(x.untouched)
	}
	if over < 20000 || touched < 10000 {
		t.Errorf("%d untouched, %d touched: the passes are too tame or too wild", over, touched)
	}
}

func TestNothingTouched(t *testing.T) { // P13.5, W1: any bytes, and no rule that fits
	m := made(206)
	for n := range 2000 {
		b := make([]byte, n%60)
		m.Read(b)
		if m.Intn(2) == 0 {
			b = []byte(m.text(30))
		}
		text := string(b)
		var want []api.Block
		for at, u := range utf.All(text) {
			want = append(want, api.Block{S0: at, S1: at + utf.Width(u), R0: at, R1: at + utf.Width(u)})
		}
		for _, p := range []api.Pass{{}, {Rules: []api.Rule{}}, {Rules: []api.Rule{{Key: row(of(0x2603, 0x2604)), Result: pieces(unit('x'))}}}, {Rules: []api.Rule{{Ante: row(of(0x2603, 0x2603)), Key: row(all)}}}} {
			if l, result := parted(t, p, text); !slices.Equal(l, want) || result != text {
				t.Errorf("%v over %q: %s; want %s", p, text, written(l), written(want))
			}
		}
	}
}

func TestLongTexts(t *testing.T) { // P13.1, P13.5
	m := made(207)
	for _, most := range []int{3000, 3000, 3000, api.MaxText, api.MaxText, api.MaxText} {
		p, text := m.fine(30), ""
		for len(text) < most {
			text += m.text(200)
		}
		text = text[:most]
		l, _ := parted(t, p, text)
		if most < api.MaxText && !slices.Equal(l, goesByWords(p, text).blocks) {
			t.Errorf("%v over %.60q: not these %d blocks", p, text, len(l))
		}
	}
}

// rises holds what P13.6 says of blocks that join.
func rises(t *testing.T, l []api.Block) {
	t.Helper()
	most := end(l)
	lastFrom, lastTo := 0, 0
	for at := 0; at <= most.s; at++ {
		x, y := trace.To(l, at)
		if x < lastFrom || y < lastTo || x > y || y > most.r {
			t.Errorf("%s: To(%d): %d %d behind %d %d", written(l), at, x, y, lastFrom, lastTo)
		}
		lastFrom, lastTo = x, y
		for within := x; within <= y; within++ {
			if x < y && (within == x || within == y) {
				continue
			}
			if s, e := trace.From(l, within); at < s || at > e {
				t.Errorf("%s: To(%d): %d %d, but From(%d): %d %d", written(l), at, x, y, within, s, e)
			}
		}
	}
	lastFrom, lastTo = 0, 0
	for at := 0; at <= most.r; at++ {
		x, y := trace.From(l, at)
		if x < lastFrom || y < lastTo || x > y || y > most.s {
			t.Errorf("%s: From(%d): %d %d behind %d %d", written(l), at, x, y, lastFrom, lastTo)
		}
		lastFrom, lastTo = x, y
	}
	if x, y := trace.To(l, most.s); x != most.r || y != most.r {
		t.Errorf("%s: the end is at %d %d", written(l), x, y)
	}
}

func TestRising(t *testing.T) { // P13.6
	m := made(208)
	for range 1500 {
		rises(t, blocksOf(t, m.fine(10), m.text(25)))
		rises(t, m.blocks(m.Intn(40)))
	}
	for _, l := range joined(4, 3) {
		rises(t, l)
	}
}

// joined is all lists of blocks that join, up to so many bytes of the source and of the result.
func joined(source, result int) [][]api.Block {
	out := [][]api.Block{nil}
	for i := 0; i < len(out); i++ {
		last := end(out[i])
		for s := last.s + 1; s <= source; s++ {
			for r := last.r; r <= result; r++ {
				out = append(out, append(slices.Clone(out[i]), api.Block{S0: last.s, S1: s, R0: last.r, R1: r}))
			}
		}
	}
	return out
}

func TestAllShortBlocks(t *testing.T) { // P13.2 to P13.4
	all, fit := joined(4, 4), 0
	for _, x := range all {
		for at := -1; at < 6; at++ {
			places(t, x, at)
		}
		for _, y := range all {
			want, e := throughByWords(x, y)
			if got, code := trace.Through(x, y); code != e || !slices.Equal(got, want) {
				t.Fatalf("%s through %s: %s, %d; want %s, %d", written(x), written(y), written(got), code, written(want), e)
			}
			if e == api.OK {
				fit++
			}
		}
	}
	if fit < 10000 {
		t.Errorf("only %d of %d lists fit", fit, len(all))
	}
}

// threefold holds that three lists of blocks that fit are joined to the same, whichever two are first.
func threefold(t *testing.T, a, b, c []api.Block) {
	t.Helper()
	ab, e1 := trace.Through(a, b)
	left, e2 := trace.Through(ab, c)
	bc, e3 := trace.Through(b, c)
	right, e4 := trace.Through(a, bc)
	if e1 != api.OK || e2 != api.OK || e3 != api.OK || e4 != api.OK || !slices.Equal(left, right) {
		t.Fatalf("%s, %s, %s: %s, and %s", written(a), written(b), written(c), written(left), written(right))
	}
	for _, l := range [][]api.Block{ab, bc, left} {
		if _, joins := bordersByWords(l); !joins {
			t.Errorf("%s, %s, %s: %s do not join", written(a), written(b), written(c), written(l))
		}
	}
	if end(left) != (pair{end(a).s, end(c).r}) {
		t.Errorf("%s, %s, %s: %s end elsewhere", written(a), written(b), written(c), written(left))
	}
}

func TestThroughOfThree(t *testing.T) { // P13.7
	lists := joined(3, 3)
	n := 0
	for _, a := range lists {
		for _, b := range lists {
			for _, c := range lists {
				if end(a).r == end(b).s && end(b).r == end(c).s {
					threefold(t, a, b, c)
					n++
				}
			}
		}
	}
	if n < 5000 {
		t.Errorf("only %d of %d lists fit", n, len(lists))
	}
	m := made(209)
	for range 5000 {
		a := m.blocks(m.Intn(20))
		b := m.blocks(end(a).r)
		threefold(t, a, b, m.blocks(end(b).r))
	}
}

func TestThroughOfThreeRuns(t *testing.T) { // P13.5, P13.7
	m := made(210)
	for range 1500 {
		a, first := parted(t, m.fine(8), m.text(20))
		b, second := parted(t, m.fine(8), first)
		c, _ := parted(t, m.fine(8), second)
		threefold(t, a, b, c)
	}
}

func TestThroughSingleBytes(t *testing.T) { // P13.7: they change nothing, on either side
	m := made(211)
	lists := joined(4, 4)
	for range 2000 {
		lists = append(lists, m.blocks(m.Intn(40)), blocksOf(t, m.fine(8), m.text(20)))
	}
	for _, l := range lists {
		leads(t, bytewise(end(l).s), l, l)
		leads(t, l, bytewise(end(l).r), l)
	}
	// The blocks of a run that touches nothing of a text of single bytes are such.
	for _, text := range []string{"", "a", "abc", "a\xE2\x82", "\xFF\xFE"} {
		if l := blocksOf(t, read(t, "q > | r"), text); !slices.Equal(l, bytewise(len(text))) {
			t.Errorf("%q: %s", text, written(l))
		}
	}
}
