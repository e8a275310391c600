package match_test

import (
	"fmt"
	"math"
	"math/rand"
	"slices"
	"strings"
	"sync"
	"testing"

	"respell/api"
	"respell/match"
	"respell/utf"
)

// What holds everywhere: R1, R3, R4, R5.

func TestEveryCallEnds(t *testing.T) { // R1
	numbers := []int{math.MinInt, math.MinInt + 1, -1, 0, 1, 2, 'a', maxRune, firstRaw, math.MaxInt - 1, math.MaxInt}
	for _, x := range numbers {
		for _, y := range numbers {
			for kind := -1; kind <= 4; kind++ {
				for _, s := range []api.Set{abc, of(x, y), of(x, x, y, y), of('a', 'c', x, y), nil} {
					r := api.Rule{Ante: row(s), Key: row(abc, s), Post: row(s), Result: pieces(api.Piece{Kind: kind, Unit: x, Key: y, To: s}), Cursor: y}
					p := api.Pass{Rules: []api.Rule{r, {Key: row(abc), Result: pieces(api.Piece{Kind: kind, Key: x, To: abc}), Cursor: x}}}
					done, left := []int{x, y}, []int{'a', y, x}
					fits(t, r, done, left, fitsByWords(r, done, left))
					finds(t, p, done, left, findByWords(p, done, left))
				}
			}
		}
	}
	for _, n := range []int{257, 100000} {
		long := api.Rule{Ante: slices.Repeat(row(a), n), Key: slices.Repeat(row(a), n), Post: slices.Repeat(row(a), n)}
		units := slices.Repeat([]int{'a'}, 3*n)
		fits(t, long, units, units, false)
		fits(t, api.Rule{Key: row(a), Post: long.Post}, units, units, false)
		fits(t, api.Rule{Key: row(a), Ante: long.Ante}, units, units, false)
		fits(t, api.Rule{Key: row(a)}, units, units, true)
		finds(t, api.Pass{Rules: []api.Rule{{Key: row(a)}, long}}, units, units, -1)
		finds(t, api.Pass{Rules: slices.Repeat([]api.Rule{long}, n)}, units, units, -1)
	}
}

func TestTheGreatestPasses(t *testing.T) { // R1
	// 256 rules, as long as they may be, all sets with 512 ranges; the last unit that is asked for alone tells them apart.
	most := make(api.Set, 512)
	for i := range most {
		most[i] = api.Range{Lo: 3 * i, Hi: 3*i + 1}
	}
	var p api.Pass
	for n := range 256 {
		r := api.Rule{Ante: slices.Repeat(row(most), 8), Key: slices.Repeat(row(most), 8), Post: slices.Repeat(row(most), 8)}
		r.Post[7] = slices.Delete(slices.Clone(most), 2*n, 2*n+2)
		p.Rules = append(p.Rules, r)
	}
	done, left := slices.Repeat([]int{3*511 + 1}, 8), slices.Repeat([]int{3 * 511}, 16)
	finds(t, p, done, left, 0)
	left[15] = 0
	finds(t, p, done, left, 1)
	slices.Reverse(p.Rules)
	left[15] = 3*511 + 1
	finds(t, p, done, left, 1)
	left[15] = 2
	finds(t, p, done, left, -1)
	left[15], done[0] = 0, 2
	finds(t, p, done, left, -1)
	left[15], done[0] = 0, 3
	finds(t, p, done, left, 0)
}

func TestNilAndEmptyAreTheSame(t *testing.T) { // R3
	full := func(p api.Pass) api.Pass {
		q := api.Pass{Rules: append([]api.Rule{}, p.Rules...)}
		for i, r := range q.Rules {
			for _, l := range []*[]api.Set{&r.Ante, &r.Key, &r.Post} {
				*l = append([]api.Set{}, *l...)
			}
			r.Result = append([]api.Piece{}, r.Result...)
			for k := range r.Result {
				r.Result[k].To = append(api.Set{}, r.Result[k].To...)
			}
			q.Rules[i] = r
		}
		return q
	}
	for _, text := range []string{"", "a > ", "^ { a } $ > @1", "a > b ; ab > c", "x { a > p"} {
		p := read(t, text)
		q := full(p)
		for _, done := range [][]int{nil, {}, {'x'}} {
			for _, left := range [][]int{nil, {}, {'a'}, {'a', 'b'}} {
				want := match.Find(p, done, left)
				finds(t, q, append([]int{}, done...), append([]int{}, left...), want)
				finds(t, q, done, left, want)
				finds(t, p, slices.Clone(done), append([]int{}, left...), want)
				for i, r := range p.Rules {
					fits(t, q.Rules[i], append([]int{}, done...), append([]int{}, left...), match.Fits(r, done, left))
				}
			}
		}
	}
	fits(t, api.Rule{Key: row(a), Begin: true, Ante: []api.Set{}}, []int{}, []int{'a'}, true)
	fits(t, api.Rule{Key: []api.Set{}}, []int{}, []int{}, false)
	finds(t, api.Pass{Rules: []api.Rule{{Key: row(api.Set{})}}}, nil, []int{}, -1)
}

// roomy is a copy of a list with spare room behind it that has something in it.
func roomy[T any](l []T, spare T) []T {
	return append(slices.Clone(l), spare, spare, spare)[:len(l)]
}

func roomySets(l []api.Set) []api.Set {
	out := roomy(l, of('a', 'a'))
	for i, s := range out {
		out[i] = roomy(s, api.Range{Lo: lastRaw, Hi: lastRaw})
	}
	return out
}

func roomyPass(p api.Pass) api.Pass {
	p.Rules = roomy(p.Rules, api.Rule{Key: slices.Repeat(row(all), 8)})
	for i, r := range p.Rules {
		r.Ante, r.Key, r.Post, r.Result = roomySets(r.Ante), roomySets(r.Key), roomySets(r.Post), roomy(r.Result, unit('a'))
		for k, x := range r.Result {
			r.Result[k].To = roomy(x.To, api.Range{Lo: lastRaw, Hi: lastRaw})
		}
		p.Rules[i] = r
	}
	return p
}

// seen tells all that stands in the lists of a pass, the spare room too.
func seen(p api.Pass, lists ...[]int) string {
	var b strings.Builder
	for _, l := range lists {
		fmt.Fprint(&b, l[:cap(l)])
	}
	for _, r := range p.Rules[:cap(p.Rules)] {
		fmt.Fprint(&b, r)
		for _, l := range [][]api.Set{r.Ante, r.Key, r.Post} {
			for _, s := range l[:cap(l)] {
				fmt.Fprint(&b, s[:cap(s)])
			}
		}
		for _, x := range r.Result[:cap(r.Result)] {
			fmt.Fprint(&b, x, x.To[:cap(x.To)])
		}
	}
	return b.String()
}

func TestWhatIsHandedInStays(t *testing.T) { // R4
	for _, wrong := range []int{0, 5} {
		m := maker{rand.New(rand.NewSource(4)), wrong}
		for range 200 {
			p := m.pass(8)
			done, left := m.place(p)
			want := match.Find(p, done, left)
			// What stands in the spare room, of units too, is not seen.
			p, done, left = roomyPass(p), roomy(done, 'a'), roomy(left, 'a')
			before := seen(p, done, left)
			finds(t, p, done, left, want)
			for _, r := range p.Rules {
				fits(t, r, done, left, fitsByWords(r, done, left))
			}
			if seen(p, done, left) != before {
				t.Fatalf("what was handed in has changed: %v", p)
			}
		}
	}
}

func TestOneListOnBothSides(t *testing.T) { // R4
	units := utf.Cut("abcabc")
	p := read(t, "abc { abc > x ; ab > y")
	finds(t, p, units[:3], units[3:], 0)
	finds(t, p, units, units, 0)
	finds(t, p, units[:2], units[:2], 1)
	if text, _ := utf.Join(units); text != "abcabc" {
		t.Errorf("%q", text)
	}
}

func TestWhatIsHandedInIsNotKept(t *testing.T) { // R4, R5
	p := read(t, "x { a > p ; ab > q")
	done, left := utf.Cut("x"), utf.Cut("ac")
	finds(t, p, done, left, 0)
	left[1] = 'b'
	finds(t, p, done, left, 1)
	p.Rules[1].Key[1][0] = api.Range{Lo: 'c', Hi: 'c'}
	finds(t, p, done, left, 0)
	fits(t, p.Rules[0], done, left, true)
	done[0] = 'y'
	finds(t, p, done, left, -1)
	fits(t, p.Rules[0], done, left, false)
	p.Rules[0].Ante = nil
	finds(t, p, done, left, 0)
	p.Rules[1].Cursor = -1
	finds(t, p, done, left, -1)
	fits(t, p.Rules[0], done, left, true)
	p.Rules = p.Rules[:1]
	finds(t, p, done, left, 0)
}

func TestCallsLeaveNoTrace(t *testing.T) { // R5
	m := maker{rand.New(rand.NewSource(5)), 3}
	good := read(t, "x { a > p ; ab > q ; ^ { a } $ > r")
	for range 500 {
		p := m.pass(6)
		done, left := m.place(p)
		finds(t, p, done, left, findByWords(p, done, left))
		finds(t, good, []int{'x'}, utf.Cut("ac"), 0)
		finds(t, good, []int{'y'}, utf.Cut("abc"), 1)
		finds(t, good, nil, utf.Cut("a"), 2)
		finds(t, good, []int{'y'}, utf.Cut("a"), -1)
		fits(t, good.Rules[2], nil, utf.Cut("a"), true)
	}
}

func TestSideBySide(t *testing.T) { // R4, R5
	p := read(t, "x { a > p ; ab > q ; ^ { a } $ > r")
	done, left := utf.Cut("yx"), utf.Cut("abc")
	var wait sync.WaitGroup
	for range 8 {
		wait.Go(func() {
			for range 300 {
				finds(t, p, done, left, 1)
				finds(t, p, done, left[:1], 0)
				finds(t, p, nil, left[:1], 2)
				fits(t, p.Rules[0], done, left, true)
				fits(t, p.Rules[2], done, left[:1], false)
			}
		})
	}
	wait.Wait()
}
