package judge_test

import (
	"fmt"
	"math"
	"slices"
	"strings"
	"sync"
	"testing"

	"respell/api"
	"respell/judge"
)

// What holds everywhere: R1 to R5.

func TestEveryCallEnds(t *testing.T) { // R1, R2
	numbers := []int{math.MinInt, -1, 0, 1, 2, 'a', maxRune, firstRaw, math.MaxInt}
	codes := map[api.Errno]int{}
	abc := of('a', 'c')
	for _, x := range numbers {
		for _, y := range numbers {
			for _, s := range []api.Set{abc, of(x, y), of(x, x, y, y), nil} {
				for _, piece := range []api.Piece{unit(x), unit(y), again(x), paired(0, s), paired(y, abc), {Kind: x, Unit: y, Key: x, To: s}} {
					near := api.Rule{Ante: row(abc), Key: row(abc, s), Post: row(s), Result: pieces(piece), Cursor: y}
					last := api.Rule{Key: row(abc), Result: pieces(piece), Cursor: 1}
					for _, p := range []api.Pass{rules(near), rules(last), rules(last, near)} {
						for _, most := range []int{1, 2, x} {
							codes[ends(t, p, rules(last), of('a', 'b', firstRaw, firstRaw+1), most)]++
							codes[ends(t, rules(last), p, s, most)]++
							codes[ends(t, p, api.Pass{}, s, most)]++
						}
					}
				}
			}
		}
	}
	if codes[api.OK] < 4000 || len(codes) < 10 {
		t.Errorf("too few errors, or too many: %v", codes)
	}
	for _, n := range []int{257, 100000} {
		great := api.Rule{Ante: slices.Repeat(row(abc), n), Key: slices.Repeat(row(abc), n), Post: slices.Repeat(row(abc), n)}
		refused(t, rules(great), api.Pass{}, abc, 1, api.ErrRuleKey)
		refused(t, api.Pass{}, rules(slices.Repeat([]api.Rule{great}, n)...), abc, 1, api.ErrRuleMany)
		refused(t, api.Pass{}, api.Pass{}, slices.Repeat(abc, n), 1, api.ErrSetRow)
	}
}

// ends holds that beside an error, or where no text is told, there is none.
func ends(t *testing.T, p, q api.Pass, over api.Set, most int) api.Errno {
	t.Helper()
	got := differ(p, q, over, most)
	if got.code != api.OK && got != (answer{code: got.code}) || !got.is && got.s != "" || got.is && got.s == "" {
		t.Fatalf("%s, %s over %s, %d: %v", brief(p), brief(q), brief(over), most, got)
	}
	return got.code
}

func TestGreatPasses(t *testing.T) { // R1
	// As many rules as may be, of long keys, with sets of as many ranges as may be.
	var p api.Pass
	for n := range 256 {
		r := api.Rule{Begin: n%3 == 0, End: n%5 == 0, Ante: slices.Repeat(row(one(512)), n%9), Key: slices.Repeat(row(one(512)), 1+n%8), Post: slices.Repeat(row(one(512)), n%9), Result: slices.Repeat(pieces(unit('x'+n)), 16), Cursor: 16}
		p.Rules = append(p.Rules, r)
	}
	q := api.Pass{Rules: slices.Clone(p.Rules)}
	// It has a key of eight, and nothing stands ahead of it: so it comes first in a text that is long enough.
	q.Rules[63].Result, q.Rules[63].Cursor = nil, 0
	if got := differ(p, p, of(0, 2), 1); got != same {
		t.Error(got)
	}
	if got := differ(p, q, of(0, 0), 12); got != told(strings.Repeat("\x00", 8)) {
		t.Error(got)
	}
}

func TestNilAndEmptyAreTheSame(t *testing.T) { // R3
	drawn(2280, 20, func(m maker, p, _ api.Pass, o over, _ []string) {
		q := api.Pass{Rules: append([]api.Rule{}, p.Rules...)}
		for i, r := range q.Rules {
			r.Ante, r.Post = append([]api.Set{}, r.Ante...), append([]api.Set{}, r.Post...)
			r.Result = append([]api.Piece{}, r.Result...)
			for k := range r.Result {
				r.Result[k].To = append(api.Set{}, r.Result[k].To...)
			}
			q.Rules[i] = r
		}
		if got := differ(p, q, o.set, o.most); got != same {
			t.Fatalf("%s over %s, %d: %v", brief(p), brief(o.set), o.most, got)
		}
		x := m.near(p)
		if a, b := differ(x, p, o.set, 2), differ(x, q, o.set, 2); a != b {
			t.Fatalf("%s and %s over %s, 2: %v, and with empty lists %v", brief(x), brief(p), brief(o.set), a, b)
		}
	})
	is(t, api.Pass{}, api.Pass{Rules: []api.Rule{}}, in("ab"), 3, same)
	is(t, read(t, "a > b"), api.Pass{Rules: []api.Rule{}}, api.Set{}, 3, same)
}

// roomy is a copy of a list with spare room behind it that has something in it.
func roomy[T any](l []T, spare T) []T {
	return append(slices.Clone(l), spare, spare, spare)[:len(l)]
}

func roomySets(l []api.Set) []api.Set {
	out := roomy(l, of(-7, -8))
	for i, s := range out {
		out[i] = roomy(s, api.Range{Lo: -7, Hi: -8})
	}
	return out
}

func roomyPass(p api.Pass) api.Pass {
	p.Rules = roomy(p.Rules, api.Rule{Cursor: -7})
	for i, r := range p.Rules {
		r.Ante, r.Key, r.Post, r.Result = roomySets(r.Ante), roomySets(r.Key), roomySets(r.Post), roomy(r.Result, unit(-7))
		for k, x := range r.Result {
			r.Result[k].To = roomy(x.To, api.Range{Lo: -7, Hi: -8})
		}
		p.Rules[i] = r
	}
	return p
}

// seen tells all that stands in the lists of a pass, the spare room too.
func seen(p api.Pass) string {
	var b strings.Builder
	for _, r := range p.Rules[:cap(p.Rules)] {
		fmt.Fprint(&b, r)
		for _, l := range [][]api.Set{r.Ante, r.Key, r.Post} {
			for _, s := range l[:cap(l)] {
				fmt.Fprint(&b, s[:cap(s)])
			}
		}
		for _, x := range r.Result[:cap(r.Result)] {
			fmt.Fprint(&b, x, x.To[:cap(x.To)])
		}
	}
	return b.String()
}

func TestWhatIsHandedInStays(t *testing.T) { // R4
	drawn(2290, 20, func(m maker, p, q api.Pass, o over, _ []string) {
		if m.Intn(4) == 0 {
			q.Rules = append(slices.Clone(q.Rules), pick(m, illegal...).rules...)
		}
		p, q, set := roomyPass(p), roomyPass(q), roomy(o.set, api.Range{Lo: -7, Hi: -8})
		first, second, third := seen(p), seen(q), fmt.Sprint(set[:cap(set)])
		for _, most := range []int{o.most, 0, -1, 4097, 30} {
			if len(m.few) > 1 || most != 30 {
				judge.Differ(p, q, set, most)
			}
		}
		if seen(p) != first || seen(q) != second || fmt.Sprint(set[:cap(set)]) != third {
			t.Fatalf("what was handed in has changed: %s and %s over %s", brief(p), brief(q), brief(set))
		}
	})
	for _, over := range noSets {
		over = roomy(over, api.Range{Lo: -7, Hi: -8})
		was := slices.Clone(over[:cap(over)])
		judge.Differ(api.Pass{}, api.Pass{}, over, 2)
		if !slices.Equal(over[:cap(over)], was) {
			t.Fatalf("what was handed in has changed: %s", brief(was))
		}
	}
}

// spoilt are ways to change a pass in place, each in another list of it. It is [ab]c > z@1:[xy] ; 1 { d } 2 > ee, and is another one behind each.
var spoilt = []func(p api.Pass){
	func(p api.Pass) { p.Rules[0] = api.Rule{Key: row(of('d', 'd'))} },
	func(p api.Pass) { copy(p.Rules, p.Rules[1:]) },
	func(p api.Pass) { p.Rules[0].Begin = true },
	func(p api.Pass) { p.Rules[0].Key[0] = of('a', 'a', 'd', 'd') },
	func(p api.Pass) { p.Rules[0].Key[1][0] = api.Range{Lo: 'd', Hi: 'd'} },
	func(p api.Pass) { p.Rules[0].Result[0] = unit('c') },
	func(p api.Pass) { p.Rules[0].Result[1].To[0] = api.Range{Lo: 'v', Hi: 'w'} },
	func(p api.Pass) { p.Rules[0].Result[1].To = of('x', 'x', 'z', 'z') },
	func(p api.Pass) { p.Rules[1].Ante[0][0].Hi = '2' },
	func(p api.Pass) { p.Rules[1].Post[0] = of('d', 'd') },
	func(p api.Pass) { p.Rules[1].Result = nil },
	func(p api.Pass) { p.Rules[1].Cursor = 1 },
	func(p api.Pass) { p.Rules[1].Cursor = 3 },
}

func TestWhatIsHandedInIsNotKept(t *testing.T) { // R4, R5
	const text = "[ab]c > z@1:[xy] ; 1 { d } 2 > ee"
	over := in("abcd12")
	texts := textsByWords(over, 3)
	for n, spoil := range spoilt {
		p, q := read(t, text), read(t, text)
		is(t, p, q, over, 3, same)
		spoil(p)
		// The answers are those of the pass as it is now, and of the other one as it was.
		want := answer{code: codeByWords(p, q, true, 6, 3)}
		if want.code == api.OK {
			want = firstByWords(t, p, q, texts)
		}
		if want == same && n != 11 {
			t.Errorf("%d: the test is wrong", n)
		}
		is(t, p, q, over, 3, want)
		is(t, q, read(t, text), over, 3, same)
		// Of both alike.
		spoil(q)
		if want.code == api.OK {
			is(t, p, q, over, 3, same)
		}
	}
	// The set.
	p, q := read(t, "a > x ; b > y"), read(t, "a > y ; b > x")
	over = in("ab")
	is(t, p, q, over, 2, told("a"))
	over[0].Lo = 'b'
	is(t, p, q, over, 2, told("b"))
	over[0] = api.Range{Lo: 'c', Hi: 'z'}
	is(t, p, q, over, 2, same)
	over[0].Lo = 'a'
	is(t, p, q, over, 2, told("a"))
}

func TestOneAnswer(t *testing.T) { // R5: earlier calls are not seen
	p, q := read(t, "^ b { a > x"), read(t, "b { a > x")
	for _, text := range []string{"", "a > b ; c > d", "a > ", "ab > | b", "[ab] > @1"} {
		other := read(t, text)
		for _, o := range overs {
			for _, most := range []int{0, 1, 3, -1, 4097} {
				differ(other, q, o.set, most)
				differ(p, other, o.set, most)
				is(t, p, q, in("ab"), 3, told("aba"))
				is(t, p, q, in("ab"), 2, same)
			}
		}
		differ(rules(api.Rule{}), other, nil, 0)
		is(t, p, q, in("ab"), 3, told("aba"))
	}
}

func TestManyCallersSideBySide(t *testing.T) { // R5
	var wait sync.WaitGroup
	drawn(2300, 2, func(_ maker, p, q api.Pass, o over, texts []string) {
		want := firstByWords(t, p, q, texts)
		for range 4 {
			wait.Go(func() {
				for range 4 {
					if got := differ(p, q, o.set, o.most); got != want {
						t.Errorf("%s and %s over %s, %d: %v; want %v", brief(p), brief(q), brief(o.set), o.most, got, want)
					}
				}
			})
		}
	})
	wait.Wait()
}
