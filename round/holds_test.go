package round_test

import (
	"fmt"
	"math"
	"slices"
	"strings"
	"sync"
	"testing"

	"respell/api"
	"respell/round"
)

// What holds everywhere: R1 to R5.

func TestEveryCallEnds(t *testing.T) { // R1, R2
	numbers := []int{math.MinInt, -1, 0, 1, 2, 'a', maxRune, firstRaw, math.MaxInt}
	abc, code := of('a', 'c'), map[api.Errno]int{}
	for _, x := range numbers {
		for _, y := range numbers {
			for kind := -1; kind <= 4; kind++ {
				for _, s := range []api.Set{abc, of(x, y), of(x, x, y, y), nil} {
					near := api.Rule{Ante: row(of('1', '3')), Key: row(abc, s), Post: row(s), Result: pieces(api.Piece{Kind: kind, Unit: x, Key: y, To: s}), Cursor: y}
					one := api.Rule{Key: row(s), Result: pieces(api.Piece{Kind: kind, Unit: y, To: s}), Cursor: 1}
					last := api.Rule{Key: row(of('p', 'p')), Result: pieces(unit(x), unit('q')), Cursor: 2}
					for _, p := range []api.Pass{rules(near, one), rules(one), rules(last, one), rules(one, near, last), rules(last)} {
						comes, _ := told(t, p, "abcpq\xE2\x00"+bytesOf(firstRaw)+"\U0010FFFF")
						code[comes.code]++
					}
				}
			}
		}
	}
	if code[api.OK] < 100 || len(code) < 7 {
		t.Errorf("too few errors, or too many: %v", code)
	}
	a := row(of('a', 'a'))
	for _, n := range []int{257, 100000} {
		great := api.Rule{Ante: slices.Repeat(a, n), Key: slices.Repeat(a, n), Post: slices.Repeat(a, n)}
		comesNot(t, rules(great), strings.Repeat("a", n), api.ErrRuleKey)
		comesNot(t, rules(slices.Repeat([]api.Rule{great}, n)...), strings.Repeat("a", n), api.ErrRuleMany)
		comesNot(t, rules(make([]api.Rule, n)...), strings.Repeat("a", n), api.ErrRuleMany)
	}
	comesNot(t, read(t, "a > x"), strings.Repeat("\xE2", 1<<24), api.ErrLong)
}

func TestTheGreatestPasses(t *testing.T) { // R1
	// As many rules as may be, of long keys, with sets of as many ranges as may be.
	var p api.Pass
	for n := range 256 {
		r := api.Rule{Key: slices.Repeat(row(each(0x10000, 512)), 8), Cursor: 8}
		for k := range 7 {
			r.Result = append(r.Result, again(7-k))
		}
		r.Result = append(r.Result, paired(0, of(0x20000+1000*n, 0x20000+1000*n+511)))
		r.Ante = row(of('1', '1'), of('a'+n%26, 'z'))
		p.Rules = append(p.Rules, r)
	}
	for _, s := range []string{strings.Repeat("d", maxText), strings.Repeat("\U00010000", 100), strings.Repeat("1z\U00010000\U00010002\U00010004\U00010006\U00010008\U0001000A\U0001000C\U0001000E", 20), strings.Repeat("1a\U00010000", 50)} {
		comes, sure := told(t, p, s)
		if comes != (answer{is: true}) || sure != (answer{code: api.ErrTurnMany}) {
			t.Errorf("%.60q: %v, %v", s, comes, sure)
		}
	}
	// What is written stands there already: it becomes another unit, that has the first three bytes of the one that it was.
	if comes, _ := told(t, p, "1z"+strings.Repeat("\U00010000", 7)+"\U00020001"); comes != (answer{at: 5}) {
		t.Errorf("%v", comes)
	}
}

func TestNilAndEmptyAreTheSame(t *testing.T) { // R3
	for _, m := range []maker{made(321, 0), made(322, 3)} {
		for range 500 {
			p := m.pass(4)
			q := api.Pass{Rules: append([]api.Rule{}, p.Rules...)}
			for i, r := range q.Rules {
				r.Ante, r.Post = append([]api.Set{}, r.Ante...), append([]api.Set{}, r.Post...)
				r.Result = append([]api.Piece{}, r.Result...)
				for k := range r.Result {
					r.Result[k].To = append(api.Set{}, r.Result[k].To...)
				}
				q.Rules[i] = r
			}
			s := bytesOf(m.units(api.Pass{}, 12)...)
			comes, sure := told(t, p, s)
			if x, y := told(t, q, s); x != comes || y != sure {
				t.Fatalf("%s over %q: %v, %v, and with empty lists %v, %v", brief(p), s, comes, sure, x, y)
			}
		}
	}
}

// roomy is a copy of a list with spare room behind it that has something in it.
func roomy[T any](l []T, spare T) []T {
	return append(slices.Clone(l), spare, spare, spare)[:len(l)]
}

func roomySets(l []api.Set) []api.Set {
	out := roomy(l, of(-7, -8))
	for i, s := range out {
		out[i] = roomy(s, api.Range{Lo: -7, Hi: -8})
	}
	return out
}

func roomyPass(p api.Pass) api.Pass {
	p.Rules = roomy(p.Rules, api.Rule{Cursor: -7})
	for i, r := range p.Rules {
		r.Ante, r.Key, r.Post, r.Result = roomySets(r.Ante), roomySets(r.Key), roomySets(r.Post), roomy(r.Result, unit(-7))
		for k, x := range r.Result {
			r.Result[k].To = roomy(x.To, api.Range{Lo: -7, Hi: -8})
		}
		p.Rules[i] = r
	}
	return p
}

// seen tells all that stands in the lists of a pass, the spare room too.
func seen(p api.Pass) string {
	var b strings.Builder
	for _, r := range p.Rules[:cap(p.Rules)] {
		fmt.Fprint(&b, r)
		for _, l := range [][]api.Set{r.Ante, r.Key, r.Post} {
			for _, s := range l[:cap(l)] {
				fmt.Fprint(&b, s[:cap(s)])
			}
		}
		for _, x := range r.Result[:cap(r.Result)] {
			fmt.Fprint(&b, x, x.To[:cap(x.To)])
		}
	}
	return b.String()
}

func TestWhatIsHandedInStays(t *testing.T) { // R4
	for _, m := range []maker{made(323, 0), made(324, 3)} {
		for n := range 500 {
			p := m.pass(6)
			if n%2 == 0 {
				p = m.fine(6)
			}
			p = roomyPass(p)
			before, s := seen(p), bytesOf(m.units(api.Pass{}, 20)...)
			round.Comes(p, s)
			round.Sure(p, s)
			if seen(p) != before {
				t.Fatalf("what was handed in has changed: %s", brief(p))
			}
		}
	}
}

// spoilt are ways to change a pass in place, each in another list of it. It is [ab]c > z@1:[xy] ; 1 { d } 2 > ee, and is another one behind each.
var spoilt = []func(p api.Pass){
	func(p api.Pass) { p.Rules[0] = api.Rule{} },
	func(p api.Pass) { copy(p.Rules, p.Rules[1:]) },
	func(p api.Pass) { p.Rules[0].Cursor = 1 },
	func(p api.Pass) { p.Rules[0].Begin = true },
	func(p api.Pass) { p.Rules[0].Key[0] = of('a', 'c') },
	func(p api.Pass) { p.Rules[0].Key[1][0] = api.Range{Lo: 'q', Hi: 'q'} },
	func(p api.Pass) { p.Rules[0].Result[0] = unit('c') },
	func(p api.Pass) { p.Rules[0].Result[1].To[0] = api.Range{Lo: 'v', Hi: 'w'} },
	func(p api.Pass) { p.Rules[0].Result[1].To = of('z', 'z') },
	func(p api.Pass) { p.Rules[1].Ante[0][0].Lo = '0' },
	func(p api.Pass) { p.Rules[1].Post[0] = of('e', 'e') },
	func(p api.Pass) { p.Rules[1].Result = nil },
}

func TestWhatIsHandedInIsNotKept(t *testing.T) { // R4, R5
	texts := []string{"", "acbc", "zx", "zxzy", "1d2", "1ee2", "zd", "0ee2", "czc\xE2", "cxay"}
	for n, spoil := range spoilt {
		p := read(t, "[ab]c > z@1:[xy] ; 1 { d } 2 > ee")
		var was []answer
		for _, s := range texts {
			comes, sure := told(t, p, s)
			was = append(was, comes, sure)
		}
		spoil(p)
		// The answers are those of the pass as it is now, and of the other one as it was.
		for i, s := range texts {
			told(t, p, s)
			if comes, sure := told(t, read(t, "[ab]c > z@1:[xy] ; 1 { d } 2 > ee"), s); comes != was[2*i] || sure != was[2*i+1] {
				t.Errorf("%d over %q: %v, %v; first %v, %v", n, s, comes, sure, was[2*i], was[2*i+1])
			}
		}
	}
}

func TestOneAnswer(t *testing.T) { // R5: earlier calls are not seen
	good := read(t, "[ab]c > @1:[xy] ; 1 { d } $ > ee ; d > zf")
	for _, text := range []string{"", "a > b ; c > d", "a > ", "[ab] > x", "c > dddddddddd", "[ab] > @1", "1 { a > 1", "x1 > x"} {
		other := read(t, text)
		for _, s := range []string{"", "acbcd", "x", "1d", "abcx", strings.Repeat("a", maxText+1)} {
			told(t, other, s)
			if comes, sure := told(t, good, "acbc1d\xE2"); comes != (answer{is: true}) || sure != comes {
				t.Fatalf("behind %s over %.60q: %v, %v", text, s, comes, sure)
			}
			if comes, sure := told(t, good, "ac1xd"); comes != (answer{at: 3}) || sure != (answer{}) {
				t.Fatalf("behind %s over %.60q: %v, %v", text, s, comes, sure)
			}
		}
	}
}

func TestManyCallersSideBySide(t *testing.T) { // R5
	m := made(325, 0)
	var wait sync.WaitGroup
	for range 12 {
		p := m.fine(8)
		s := bytesOf(m.units(p, 30)...)
		comes, sure := comesByWords(p, s), sureByWords(p, s)
		for range 4 {
			wait.Go(func() {
				for range 20 {
					if is, at, e := round.Comes(p, s); (answer{is, at, e}) != comes {
						t.Errorf("%s over %q: %t, %d, %d; want %v", brief(p), s, is, at, e, comes)
					}
					if is, e := round.Sure(p, s); is != sure.is || e != sure.code {
						t.Errorf("%s over %q: %t, %d; want %v", brief(p), s, is, e, sure)
					}
				}
			})
		}
	}
	wait.Wait()
}
