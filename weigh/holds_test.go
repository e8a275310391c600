package weigh_test

import (
	"fmt"
	"math"
	"math/rand"
	"slices"
	"strings"
	"sync"
	"testing"

	"respell/api"
	"respell/weigh"
)

// What holds everywhere: R1, R3, R4, R5.

func TestEveryCallEnds(t *testing.T) { // R1
	numbers := []int{math.MinInt, math.MinInt + 1, -1, 0, 1, 2, 'a', maxRune, firstRaw, math.MaxInt - 1, math.MaxInt}
	for _, x := range numbers {
		for _, y := range numbers {
			for kind := -1; kind <= 4; kind++ {
				for _, s := range []api.Set{abc, of(x, y), of(x, x, y, y), of('a', 'c', x, y), nil} {
					r := api.Rule{Key: row(s, abc), Result: pieces(api.Piece{Kind: kind, Unit: x, Key: y, To: s}), Cursor: y}
					p := api.Pass{Rules: []api.Rule{r, {Key: row(abc), Result: pieces(api.Piece{Kind: kind, Key: x, To: abc}), Cursor: x}}}
					n, code := checkByWords(p)
					checks(t, p, n, code)
					weigh.Weight(p, x)
					weigh.Bound(p, "abc\xE2")
				}
			}
		}
	}
	for _, n := range []int{257, 100000} {
		long := api.Rule{Ante: slices.Repeat(row(a), n), Key: slices.Repeat(row(a), n), Result: slices.Repeat(pieces(unit('a')), n)}
		checks(t, api.Pass{Rules: []api.Rule{long}}, 0, api.ErrRuleKey)
		checks(t, api.Pass{Rules: slices.Repeat([]api.Rule{long}, n)}, 0, api.ErrRuleMany)
	}
}

// lone is the n-th of some sets of 512 ranges that have no unit in common.
func lone(n int) api.Set {
	s := make(api.Set, 0, 512)
	for i := range 512 {
		u := 0x10000 + 600*i + 2*n
		s = append(s, api.Range{Lo: u, Hi: u})
	}
	return s
}

func TestTheGreatestPasses(t *testing.T) { // R1
	// Ladders of 62 rules, as many as there may be, the top first, each rule with as many pieces as its weight bears, all sets as great as they may be.
	tail := slices.Repeat(row(a), 7)
	var p api.Pass
	for n := range 256 {
		result := slices.Repeat(pieces(paired(0, lone(290))), 7)
		if n%62 < 61 && n < 255 {
			result = append(result, paired(0, lone(n+1)))
		}
		p.Rules = append(p.Rules, api.Rule{Key: slices.Concat(row(lone(n)), tail), Result: result})
	}
	checks(t, p, 0, api.OK)
	weighs(t, p, lone(0)[511].Lo, 62)
	weighs(t, p, lone(253)[0].Lo, 3)
	// All puts back all.
	for i := range p.Rules {
		p.Rules[i] = api.Rule{Key: row(all), Result: slices.Repeat(pieces(paired(0, all)), 16), Cursor: 16}
	}
	checks(t, p, 0, api.OK)
	p.Rules[255].Cursor = 15
	checks(t, p, 255, api.ErrWeighMost)
	p.Rules[7].Cursor = 0
	checks(t, p, 7, api.ErrWeighMost)
}

func TestNilAndEmptyAreTheSame(t *testing.T) { // R3
	for _, text := range []string{"a > b ; c > ", "a > | bb", "a > | a"} {
		p := read(t, text)
		q := api.Pass{Rules: slices.Clone(p.Rules)}
		for i, r := range q.Rules {
			for _, l := range []*[]api.Set{&r.Ante, &r.Post} {
				*l = []api.Set{}
			}
			r.Result = append([]api.Piece{}, r.Result...)
			for k := range r.Result {
				r.Result[k].To = api.Set{}
			}
			q.Rules[i] = r
		}
		n, e := weigh.Check(p)
		checks(t, q, n, e)
		for _, u := range someUnits {
			weighs(t, q, u, weigh.Weight(p, u))
		}
		bound(t, q, "abc", weigh.Bound(p, "abc"))
	}
}

// roomy is a copy of a list with spare room behind it that has something in it.
func roomy[T any](l []T, spare T) []T {
	return append(slices.Clone(l), spare, spare, spare)[:len(l)]
}

func roomySets(l []api.Set) []api.Set {
	out := roomy(l, of(-7, -8))
	for i, s := range out {
		out[i] = roomy(s, api.Range{Lo: -7, Hi: -8})
	}
	return out
}

func roomyPass(p api.Pass) api.Pass {
	p.Rules = roomy(p.Rules, api.Rule{Cursor: -7})
	for i, r := range p.Rules {
		r.Ante, r.Key, r.Post, r.Result = roomySets(r.Ante), roomySets(r.Key), roomySets(r.Post), roomy(r.Result, unit(-7))
		for k, x := range r.Result {
			r.Result[k].To = roomy(x.To, api.Range{Lo: -7, Hi: -8})
		}
		p.Rules[i] = r
	}
	return p
}

// seen tells all that stands in the lists of a pass, the spare room too.
func seen(p api.Pass) string {
	var b strings.Builder
	for _, r := range p.Rules[:cap(p.Rules)] {
		fmt.Fprint(&b, r)
		for _, l := range [][]api.Set{r.Ante, r.Key, r.Post} {
			for _, s := range l[:cap(l)] {
				fmt.Fprint(&b, s[:cap(s)])
			}
		}
		for _, x := range r.Result[:cap(r.Result)] {
			fmt.Fprint(&b, x, x.To[:cap(x.To)])
		}
	}
	return b.String()
}

func TestWhatIsHandedInStays(t *testing.T) { // R4
	for _, wrong := range []int{0, 20} {
		m := maker{rand.New(rand.NewSource(4)), 10, wrong}
		for range 200 {
			p := roomyPass(m.pass(8))
			before := seen(p)
			weigh.Check(p)
			weigh.Weight(p, pick(m, crowd...))
			weigh.Bound(p, m.text(9))
			if seen(p) != before {
				t.Fatalf("what was handed in has changed: %v", p)
			}
		}
	}
}

func TestWhatIsHandedInIsNotKept(t *testing.T) { // R4, R5
	p := read(t, "a > | bb ; b > | @1:[c] c ; c > d")
	weighs(t, p, 'a', 7)
	p.Rules[1].Result[0].To[0] = api.Range{Lo: 'x', Hi: 'x'}
	p.Rules[2].Key[0][0] = api.Range{Lo: 'x', Hi: 'x'}
	p.Rules[2].Cursor = 0
	weighs(t, p, 'a', 9)
	bound(t, p, "abxc", 9+4+2+1)
	p.Rules[0].Result[1].Unit = 'a'
	checks(t, p, 0, api.ErrWeighMost)
	bound(t, p, "abxc", 0)
	p.Rules[0].Result[1].Unit = 'b'
	bound(t, p, "abxc", 9+4+2+1)
	p.Rules = p.Rules[:1]
	bound(t, p, "abxc", 3+1+1+1)
}

func TestCallsLeaveNoTrace(t *testing.T) { // R5
	good := read(t, "a > | bb ; b > | cc ; c > d")
	others := []api.Pass{{}, read(t, "a > | a"), read(t, "b > | @1"), read(t, "a > | bbbbbbbb ; b > | cccccccc"), read(t, "c > | dddd ; x > | c"), {Rules: make([]api.Rule, 257)}, read(t, "a > b")}
	for range 2 {
		for _, p := range others {
			n, e := checkByWords(p)
			checks(t, p, n, e)
			weigh.Weight(p, 'a')
			weigh.Bound(p, "abcx")
			checks(t, good, 0, api.OK)
			weighs(t, good, 'a', 7)
			weighs(t, good, 'c', 1)
			weighs(t, good, 'x', 1)
			bound(t, good, "abc", 11)
		}
	}
}

func TestSideBySide(t *testing.T) { // R4, R5
	good, bad := read(t, "a > | bb ; b > | cc ; [xy] > | @1:[ab]"), read(t, "a > | b ; b > | a")
	var wait sync.WaitGroup
	for range 8 {
		wait.Go(func() {
			for range 100 {
				checks(t, good, 0, api.OK)
				checks(t, bad, 1, api.ErrWeighMost)
				weighs(t, good, 'x', 8)
				bound(t, good, "abcxy\xE2", 28)
			}
		})
	}
	wait.Wait()
}
