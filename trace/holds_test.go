package trace_test

import (
	"fmt"
	"math"
	"slices"
	"strings"
	"sync"
	"testing"

	"respell/api"
	"respell/trace"
	"respell/weigh"
)

// What holds everywhere: R1, R3, R4, R5.

func TestEveryCallEnds(t *testing.T) { // R1
	numbers := []int{math.MinInt, math.MinInt + 1, -1, 0, 1, 2, 'a', 'c', maxRune, firstRaw, math.MaxInt - 1, math.MaxInt}
	fine := 0
	for _, x := range numbers {
		for _, y := range numbers {
			for _, s := range []api.Set{abc, of(x, y), of(x, x, y, y), of('a', 'c', x, y), nil} {
				rules := []api.Rule{{Ante: row(s), Key: row(abc), Post: row(s), Cursor: x}, {Key: row(abc, s), Cursor: y}}
				for kind := -1; kind <= 4; kind++ {
					l := pieces(api.Piece{Kind: kind, Unit: x, Key: y, To: s})
					rules = append(rules, api.Rule{Key: row(abc, abc), Result: l, Cursor: 1}, api.Rule{Key: row(a, abc), Result: l, Cursor: x})
				}
				for _, r := range rules {
					p, text := api.Pass{Rules: []api.Rule{r, {Key: row(a)}}}, "abcabc\xE2aa"
					if _, e := weigh.Check(p); e != api.OK {
						refuses(t, p, text, e)
						continue
					}
					fine++
					if got, want := blocksOf(t, p, text), goesByWords(p, text).blocks; !slices.Equal(got, want) {
						t.Errorf("%v: %s; want %s", p, written(got), written(want))
					}
				}
			}
		}
	}
	if fine < 40 {
		t.Errorf("only %d passes may be", fine)
	}
}

func TestAnyBlocks(t *testing.T) { // R1: any numbers in any field
	numbers := []int{math.MinInt, -1, 0, 1, 2, math.MaxInt}
	m := made(212)
	for range 30000 {
		var l, k []api.Block
		for range m.Intn(4) {
			l = append(l, api.Block{S0: pick(m, numbers...), S1: pick(m, numbers...), R0: pick(m, numbers...), R1: pick(m, numbers...)})
			k = append(k, api.Block{S0: pick(m, 0, 1), S1: pick(m, 1, 2), R0: pick(m, 0, 1), R1: pick(m, 0, 1)})
		}
		for _, at := range numbers {
			places(t, l, at)
			places(t, k, at)
		}
		for _, x := range [][2][]api.Block{{l, k}, {k, l}, {l, l}, {k, k}} {
			want, e := throughByWords(x[0], x[1])
			if got, code := trace.Through(x[0], x[1]); code != e || !slices.Equal(got, want) {
				t.Errorf("%s through %s: %s, %d; want %s, %d", written(x[0]), written(x[1]), written(got), code, written(want), e)
			}
		}
	}
}

func TestManyBlocks(t *testing.T) { // R1
	const n = 300000
	l := bytewise(n)
	leads(t, l, l, l)
	leads(t, l, list(0, n, 0, 1), list(0, n, 0, 1))
	to(t, l, n-1, n-1, n-1)
	from(t, l, n, n, n)
	for i := range l {
		l[i].R0, l[i].R1 = 0, 0
	}
	leads(t, l, nil, l)
	from(t, l, 0, 0, n)
	to(t, l, n/2, 0, 0)
}

// ladder is rules of which each puts back what the next one takes, from the unit 0 on.
func ladder(n int) api.Pass {
	var p api.Pass
	for i := range n {
		p.Rules = append(p.Rules, api.Rule{Key: row(of(i, i)), Result: pieces(unit(i + 1))})
	}
	return p
}

func TestTheLongestRun(t *testing.T) { // R1: the longest text, each of its units as heavy as one may be
	l := blocksOf(t, ladder(63), strings.Repeat("\x00", api.MaxText))
	if !slices.Equal(l, bytewise(api.MaxText)) {
		t.Errorf("%d blocks: %.100s", len(l), written(l))
	}
}

func TestTheGreatestPasses(t *testing.T) { // R1: 256 rules, as long as they may be, all sets with 512 ranges
	most := make(api.Set, 512)
	for i := range most {
		most[i] = api.Range{Lo: 3 * i, Hi: 3*i + 1}
	}
	var p api.Pass
	for n := range 256 {
		r := api.Rule{Ante: slices.Repeat(row(most), 8), Key: slices.Repeat(row(most), 8), Post: slices.Repeat(row(most), 8), Result: slices.Repeat(pieces(paired(7, most)), 16), Cursor: 16}
		r.Post[7] = slices.Delete(slices.Clone(most), 2*n, 2*n+2)
		p.Rules = append(p.Rules, r)
	}
	want := slices.Concat(bytewise(8), list(8, 16, 8, 24))
	for i := range 8 {
		want = append(want, list(16+i, 17+i, 24+i, 25+i)...)
	}
	if l := blocksOf(t, p, strings.Repeat("c", 24)); !slices.Equal(l, want) {
		t.Errorf("%s", written(l))
	}
}

func TestNilAndEmptyAreTheSame(t *testing.T) { // R3
	for _, rules := range []string{"", "a > b ; c > ", "a > | bb", "^ { a } $ > x"} {
		p := read(t, rules)
		q := api.Pass{Rules: append([]api.Rule{}, p.Rules...)}
		for i, r := range q.Rules {
			r.Ante, r.Post = append([]api.Set{}, r.Ante...), append([]api.Set{}, r.Post...)
			r.Result = append([]api.Piece{}, r.Result...)
			for k := range r.Result {
				r.Result[k].To = api.Set{}
			}
			q.Rules[i] = r
		}
		for _, text := range []string{"", "a", "abcac\xE2"} {
			if x, y := blocksOf(t, p, text), blocksOf(t, q, text); !slices.Equal(x, y) {
				t.Errorf("%s over %q: %s, and %s", rules, text, written(x), written(y))
			}
		}
	}
}

// roomy is a copy of a list with spare room behind it that has something in it.
func roomy[T any](l []T, spare T) []T {
	return append(slices.Clone(l), spare, spare, spare)[:len(l)]
}

func roomySets(l []api.Set) []api.Set {
	out := roomy(l, of(-7, -8))
	for i, s := range out {
		out[i] = roomy(s, api.Range{Lo: -7, Hi: -8})
	}
	return out
}

func roomyPass(p api.Pass) api.Pass {
	p.Rules = roomy(p.Rules, api.Rule{Cursor: -7})
	for i, r := range p.Rules {
		r.Ante, r.Key, r.Post, r.Result = roomySets(r.Ante), roomySets(r.Key), roomySets(r.Post), roomy(r.Result, unit(-7))
		for k, x := range r.Result {
			r.Result[k].To = roomy(x.To, api.Range{Lo: -7, Hi: -8})
		}
		p.Rules[i] = r
	}
	return p
}

// seen tells all that stands in the lists of a pass, the spare room too.
func seen(p api.Pass) string {
	var b strings.Builder
	for _, r := range p.Rules[:cap(p.Rules)] {
		fmt.Fprint(&b, r)
		for _, l := range [][]api.Set{r.Ante, r.Key, r.Post} {
			for _, s := range l[:cap(l)] {
				fmt.Fprint(&b, s[:cap(s)])
			}
		}
		for _, x := range r.Result[:cap(r.Result)] {
			fmt.Fprint(&b, x, x.To[:cap(x.To)])
		}
	}
	return b.String()
}

// spoil writes over all that stands in a list of blocks, the spare room too.
func spoil(l []api.Block) {
	for i := range l[:cap(l)] {
		l[:cap(l)][i] = api.Block{S0: -9, S1: -9, R0: -9, R1: -9}
	}
}

// spoilPass writes over all that stands in the lists of a pass.
func spoilPass(p api.Pass) {
	for _, r := range p.Rules {
		for _, l := range [][]api.Set{r.Ante, r.Key, r.Post} {
			for _, s := range l {
				clear(s)
			}
			clear(l)
		}
		for _, x := range r.Result {
			clear(x.To)
		}
		clear(r.Result)
	}
	clear(p.Rules)
}

func TestPassesHandedInStay(t *testing.T) { // R4
	m := made(213)
	for n := range 600 {
		p := m.pass(8)
		if n%4 > 0 {
			p = m.fine(8)
		}
		p = roomyPass(p)
		before, text := seen(p), m.text(20)
		l, e := trace.Blocks(p, text)
		if seen(p) != before {
			t.Fatalf("what was handed in has changed: %v", p)
		}
		if e != api.OK {
			continue
		}
		want := goesByWords(p, text).blocks
		spoilPass(p)
		if !slices.Equal(l, want) {
			t.Errorf("over %q: %s, once the pass is another; want %s", text, written(l), written(want))
		}
	}
}

func TestBlocksHandedInStay(t *testing.T) { // R4
	m := made(214)
	lists := append(wrong(), joined(3, 2)...)
	for range 1000 {
		lists = append(lists, m.blocks(m.Intn(20)))
	}
	spare := api.Block{S0: 100, S1: 101, R0: 100, R1: 101}
	for _, l := range lists {
		n := 0
		if _, joins := bordersByWords(l); joins {
			n = end(l).r
		}
		x, y := roomy(l, spare), roomy(m.blocks(n), spare)
		beforeX, beforeY := slices.Clone(x[:cap(x)]), slices.Clone(y[:cap(y)])
		for at := -1; at < 10; at++ {
			trace.To(x, at)
			trace.From(x, at)
		}
		want, e := throughByWords(x, y)
		got, code := trace.Through(x, y)
		back, _ := trace.Through(bytewise(end(x).s), x)
		if !slices.Equal(x[:cap(x)], beforeX) || !slices.Equal(y[:cap(y)], beforeY) {
			t.Fatalf("what was handed in has changed: %s and %s", written(x), written(y))
		}
		copied := slices.Clone(back)
		spoil(x)
		spoil(y)
		if code != e || !slices.Equal(got, want) || !slices.Equal(back, copied) {
			t.Errorf("%s through %s: %s, once these are others; want %s", written(beforeX), written(beforeY), written(got), written(want))
		}
	}
}

func TestAnswersAreTheCallers(t *testing.T) { // R4
	p := read(t, "ab > b | c ; cd > e ; x > ")
	const text, whole = "abdxé\xE2", "{0 3 0 2} {3 4 2 2} {4 6 2 4} {6 7 4 5}"
	x, y := list(0, 1, 0, 0, 1, 2, 0, 1, 2, 3, 1, 2), list(0, 1, 0, 2, 1, 2, 2, 2)
	const first, second, joint = "{0 1 0 0} {1 2 0 1} {2 3 1 2}", "{0 1 0 2} {1 2 2 2}", "{0 1 0 0} {1 2 0 2} {2 3 2 2}"
	want := []string{whole, joint, first, first, second, whole, joint}
	ask := func() [][]api.Block {
		through := func(a, b []api.Block) []api.Block {
			l, e := trace.Through(a, b)
			if e != api.OK {
				t.Fatalf("%s through %s: %d", written(a), written(b), e)
			}
			return l
		}
		return [][]api.Block{blocksOf(t, p, text), through(x, y), through(x, bytewise(2)), through(bytewise(3), x), through(y, bytewise(2)), blocksOf(t, p, text), through(x, y)}
	}
	earlier := ask()
	for range 5 {
		answers := ask()
		// What is written into an answer, the spare room too, is seen neither in those beside it nor in what was handed in.
		for _, l := range earlier {
			spoil(l)
		}
		for i, l := range answers {
			if written(l) != want[i] {
				t.Errorf("%d: %s; want %s", i, written(l), want[i])
			}
			spoil(l)
		}
		if written(x) != first || written(y) != second {
			t.Fatalf("what was handed in has changed: %s and %s", written(x), written(y))
		}
		earlier = ask()
		for i, l := range earlier {
			if written(l) != want[i] {
				t.Errorf("%d: %s; want %s", i, written(l), want[i])
			}
		}
	}
}

func TestCallsLeaveNoTrace(t *testing.T) { // R5
	good := read(t, "a > | bb ; b > | cc ; c > d ; x { é > ")
	const want = "{0 1 0 4} {1 2 4 5} {2 4 5 5}"
	others := []api.Pass{{}, read(t, "a > | a"), read(t, "b > | @1"), read(t, "c > | dddd ; x > | c"), {Rules: make([]api.Rule, 257)}, read(t, "a > b ; é > x"), read(t, "^ { . > a")}
	for _, p := range others {
		for _, text := range []string{"", "axé", "cab\xE2", strings.Repeat("a", api.MaxText+1)} {
			first, e := trace.Blocks(p, text)
			if got := written(blocksOf(t, good, "axé")); got != want {
				t.Errorf("%s", got)
			}
			trace.To(first, 1)
			trace.Through(first, first)
			if again, code := trace.Blocks(p, text); code != e || !slices.Equal(again, first) {
				t.Errorf("%v over %.60q: %s, %d and then %s, %d", p, text, written(first), e, written(again), code)
			}
		}
	}
	// A pass that has changed is another one.
	p := read(t, "a > x ; b > yy")
	if got := written(blocksOf(t, p, "ab")); got != "{0 1 0 1} {1 2 1 3}" {
		t.Errorf("%s", got)
	}
	p.Rules[0].Result[0].Unit = 0x20AC
	p.Rules[1].Key[0][0] = api.Range{Lo: 'c', Hi: 'c'}
	if got := written(blocksOf(t, p, "ab")); got != "{0 1 0 3} {1 2 3 4}" {
		t.Errorf("%s", got)
	}
	p.Rules[1].Cursor = 7
	refuses(t, p, "ab", api.ErrRuleCursor)
}

func TestSideBySide(t *testing.T) { // R4, R5
	p, text := read(t, "ab > b | c ; cd > e ; x > "), strings.Repeat("abdxé\xE2", 20)
	want := goesByWords(p, text).blocks
	wrong := read(t, "a > | b ; b > | a")
	var wait sync.WaitGroup
	for range 8 {
		wait.Go(func() {
			for range 50 {
				if l, e := trace.Blocks(p, text); e != api.OK || !slices.Equal(l, want) {
					t.Errorf("%s, %d", written(l), e)
				}
				refuses(t, wrong, text, api.ErrWeighMost)
				leads(t, want, bytewise(end(want).r), want)
				places(t, want, 1)
			}
		})
	}
	wait.Wait()
}
