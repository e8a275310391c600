package chain_test

import (
	"fmt"
	"slices"
	"strings"
	"testing"

	"respell/api"
	"respell/edit"
	"respell/machine"
	"respell/parts"
	"respell/pass"
	"respell/stream"
	"respell/trace"
	"respell/utf"
)

// What follows of the chapter's promises: P18.6 to P18.8.

// joined holds a chain of two lists of passes joined against a chain of each, the second one over what the first one makes.
func joined(t *testing.T, l, m []api.Pass, s string) {
	t.Helper()
	first, second, whole := begin(t, l), begin(t, m), begin(t, slices.Concat(l, m))
	same(t, slices.Concat(l, m), whole, s)
	text, each, blocks, e := ask(t, first, s)
	if e != api.OK {
		tooLong(t, whole, s)
		return
	}
	behind, others, next, f := ask(t, second, text)
	if f != api.OK {
		// That it is too long matters to a pass alone, if there is one.
		if len(m) > 0 {
			tooLong(t, whole, s)
		}
		return
	}
	made, all, through, e := ask(t, whole, s)
	if made != behind || !slices.Equal(all, slices.Concat(each, others)) || e != api.OK {
		t.Fatalf("%s and %s over %.90q: %.200q, %d; want %.200q", brief(l), brief(m), s, made, e, behind)
	}
	if len(l) == 0 || len(m) == 0 {
		return
	}
	if want, e := trace.Through(blocks, next); !slices.Equal(through, want) || e != api.OK {
		t.Fatalf("%s and %s over %.90q: %.200s; want %.200s, %d", brief(l), brief(m), s, fmt.Sprint(through), fmt.Sprint(want), e)
	}
}

func TestBehindOneAnother(t *testing.T) { // P18.6, W2
	long(t)
	m := made(201)
	for range 1200 {
		n := m.Intn(9)
		joined(t, m.passes(pick(m, n, 1, 2)), m.passes(pick(m, m.Intn(9), 1, 2)), m.text(pick(m, 8, 20, 40)))
	}
	// All sizes that a chain can have.
	for n := range 17 {
		for k := range 17 - n {
			joined(t, m.passes(n), m.passes(k), m.text(10))
		}
	}
}

func TestBehindOneAnotherWhereOneRefuses(t *testing.T) { // P18.6
	long(t)
	half, full := strings.Repeat("a", maxText/2), strings.Repeat("a", maxText)
	for _, text := range []string{"", "a > bb", "a > ; then ; b > c"} {
		for _, behind := range []string{"", "b > ", "b > c ; then ; c > dd"} {
			for _, s := range []string{half, half + "a", full + "a"} {
				joined(t, readAll(t, text), readAll(t, behind), s)
			}
		}
	}
}

func TestAnyPieces(t *testing.T) { // P18.7, W4
	long(t)
	m := made(202)
	for range 700 {
		l, s := m.any(), m.text(30)
		c := begin(t, l)
		want, e := c.Run(s)
		made := through(l, s)
		if e == api.OK && made != want {
			t.Fatalf("%s over %.90q: %.200q, not %.200q", brief(l), s, want, made)
		}
		for n := range 5 {
			cut := m.cut(s)
			if n == 0 {
				cut = []string{s}
			}
			if got := toldOf(c.Stream(), cut...); got != made {
				t.Fatalf("%s over %.200q: %.200q, not %.200q", brief(l), cut, got, made)
			}
		}
	}
}

// What was told is a beginning of the result, whatever comes.
func TestAtOnce(t *testing.T) { // P18.7, W4
	long(t)
	m := made(203)
	for range 400 {
		l, s := m.any(), m.text(16)
		c := begin(t, l)
		x := c.Stream()
		told := ""
		for _, piece := range m.cut(s) {
			told += string(x.Put([]byte(piece)))
		}
		for range 4 {
			more := m.text(6)
			if want := through(l, s+more); !strings.HasPrefix(want, told) {
				t.Fatalf("%s: %q was told of %q; with %q it is %q", brief(l), told, s, more, want)
			}
		}
	}
}

// borders is the borders of blocks that join.
func borders(t *testing.T, l []api.Block) []border {
	t.Helper()
	met := []border{{}}
	for _, b := range l {
		if last := met[len(met)-1]; b.S0 != last.s || b.R0 != last.r || b.S1 <= b.S0 || b.R1 < b.R0 {
			t.Fatalf("%v: they do not join", l)
		}
		met = append(met, border{b.S1, b.R1})
	}
	return met
}

// atAll is where a place of the source stands behind all passes, if it stands at the ends of blocks of all of them.
func atAll(ends [][]border, s int) (int, bool) {
	for _, l := range ends {
		n := slices.IndexFunc(l, func(x border) bool { return x.s == s })
		if n < 0 {
			return 0, false
		}
		s = l[n].r
	}
	return s, true
}

func TestWhichOfWhich(t *testing.T) { // P18.8, W7
	long(t)
	m := made(204)
	found := map[string]int{}
	for range 1500 {
		l, s := m.any(), m.text(pick(m, 6, 20, 40))
		text, each, blocks, e := ask(t, begin(t, l), s)
		if e != api.OK {
			continue
		}
		var source, result strings.Builder
		met := borders(t, blocks)
		for _, b := range blocks {
			source.WriteString(s[b.S0:b.S1])
			result.WriteString(text[b.R0:b.R1])
			if !utf.Border(s, b.S1) && len(l) > 0 {
				t.Fatalf("%s over %q: %v ends within a unit", brief(l), s, b)
			}
		}
		if source.String() != s || result.String() != text {
			t.Fatalf("%s over %q: %v: there are gaps", brief(l), s, blocks)
		}
		var ends [][]border
		for n, p := range l {
			over := s
			if n > 0 {
				over = each[n-1]
			}
			parts, _ := trace.Blocks(p, over)
			ends = append(ends, borders(t, parts))
		}
		for at := range len(s) + 1 {
			r, is := atAll(ends, at)
			if len(l) == 0 {
				is = at == 0 || at == len(s)
				r = at
			}
			if is != slices.Contains(met, border{at, r}) {
				t.Fatalf("%s over %q: %v; at %d: %v", brief(l), s, blocks, at, is)
			}
			if len(l) > 1 {
				found[fmt.Sprint(is)]++
			}
		}
	}
	if found["true"] < 5000 || found["false"] < 5000 {
		t.Errorf("%v: the passes are too tame or too wild", found)
	}
}

// A place and where it comes to stand: through the blocks of the chain as through those of its passes.
func TestPlacesThroughAChain(t *testing.T) { // P18.3, P18.8
	c := chained(t, "a > xy ; then ; yx > q ; then ; q > ")
	l, e := c.Blocks("baac")
	if want := blocks(block(0, 1, 0, 1), block(1, 3, 1, 3), block(3, 4, 3, 4)); !slices.Equal(l, want) || e != api.OK {
		t.Fatalf("%v, %d", l, e)
	}
	if from, to := trace.To(l, 2); from != 1 || to != 3 {
		t.Errorf("%d, %d", from, to)
	}
	if from, to := trace.From(l, 2); from != 1 || to != 3 {
		t.Errorf("%d, %d", from, to)
	}
}

func TestByteForByte(t *testing.T) { // W1, W7: passes none of whose sets has a unit of the text
	long(t)
	m := made(205)
	for n := range 17 {
		l := slices.Repeat(readAll(t, "\\x{E001} > x ; ^ { \\x{E002} > ; \\x{E003} } $ > | yy"), n)
		l = l[:n]
		c := begin(t, l)
		for range 40 {
			b := make([]byte, m.Intn(50))
			m.Read(b)
			s := pick(m, string(b), m.text(30))
			if got := same(t, l, c, s); got != s {
				t.Errorf("%q: %q", s, got)
			}
			if got := toldOf(c.Stream(), m.cut(s)...); got != s {
				t.Errorf("%q: %q", s, got)
			}
			if n == 0 {
				continue
			}
			// Each unit is a block.
			var want []api.Block
			for at, u := range utf.All(s) {
				want = append(want, block(at, at+utf.Width(u), at, at+utf.Width(u)))
			}
			if got, e := c.Blocks(s); !slices.Equal(got, want) || e != api.OK {
				t.Errorf("%q: %v, %d", s, got, e)
			}
		}
	}
}

func TestAChainOfOne(t *testing.T) { // W2
	long(t)
	m := made(206)
	for range 500 {
		p, s := m.fine(8), m.text(30)
		c := begin(t, passes(p))
		want := same(t, passes(p), c, s)
		ready, _ := machine.New(p)
		byMachine, _ := ready.Run(s)
		byRules, _ := pass.Run(p, s)
		byParts, _ := parts.Run(p, s, 3)
		changed, _ := edit.New(p, s)
		x, _ := stream.New(p)
		byStream := string(x.Put([]byte(s))) + string(x.Close())
		for _, got := range []string{byMachine, byRules, byParts, changed.Result(), byStream, toldOf(c.Stream(), m.cut(s)...)} {
			if got != want {
				t.Fatalf("%s over %q: %q, not %q", brief(p), s, got, want)
			}
		}
	}
}

// A text that is changed, and what stands behind each pass with it: what one result loses and gets is changed in the next source.
func TestAnyChanges(t *testing.T) { // W5
	m := made(207)
	for range 150 {
		l, s := m.passes(1+m.Intn(4)), m.text(20)
		c := begin(t, l)
		each, _ := c.Each(s)
		var kept []*edit.Text
		for n, p := range l {
			over := s
			if n > 0 {
				over = each[n-1]
			}
			x, e := edit.New(p, over)
			if e != api.OK {
				t.Fatal(e)
			}
			kept = append(kept, x)
		}
		for range 8 {
			at := m.Intn(len(s) + 1)
			end := at + m.Intn(min(4, len(s)-at)+1)
			by := m.text(3)
			s = s[:at] + by + s[end:]
			each, e := c.Each(s)
			if e != api.OK {
				t.Fatal(e)
			}
			for n, x := range kept {
				b, e := x.Edit(at, end, by)
				if e != api.OK || x.Result() != each[n] {
					t.Fatalf("%s over %q: %q, %d; want %q", brief(l), s, x.Result(), e, each[n])
				}
				at, end, by = b.S0, b.S1, x.Result()[b.R0:b.R1]
			}
		}
	}
}

// Two ways to make the same chain's stream: one stream of all passes, or one of the first behind which one of the others comes.
func TestStreamsBehindOneAnother(t *testing.T) { // P18.4, P18.6
	long(t)
	m := made(208)
	for range 300 {
		l := m.passes(1 + m.Intn(5))
		n := m.Intn(len(l) + 1)
		whole, first, second := begin(t, l).Stream(), begin(t, l[:n]).Stream(), begin(t, l[n:]).Stream()
		for _, piece := range m.cut(m.text(30)) {
			one, two := whole.Put([]byte(piece)), second.Put(first.Put([]byte(piece)))
			if string(one) != string(two) || !slices.Equal(whole.Held(), slices.Concat(first.Held(), second.Held())) {
				t.Fatalf("%s, %q: %q, and %q", brief(l), piece, one, two)
			}
		}
		two := string(second.Put(first.Close()))
		if one := string(whole.Close()); one != two+string(second.Close()) {
			t.Fatalf("%s: %q, and %q", brief(l), one, two)
		}
	}
}
