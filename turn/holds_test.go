package turn_test

import (
	"fmt"
	"math"
	"slices"
	"strings"
	"sync"
	"testing"

	"respell/api"
	"respell/turn"
	"respell/weigh"
)

// What holds everywhere: R1 to R5.

func TestEveryCallEnds(t *testing.T) { // R1, R2
	numbers := []int{math.MinInt, math.MinInt + 1, -1, 0, 1, 2, 'a', maxRune, firstRaw, math.MaxInt - 1, math.MaxInt}
	codes := map[api.Errno]int{}
	for _, x := range numbers {
		for _, y := range numbers {
			for kind := -1; kind <= 4; kind++ {
				for _, s := range []api.Set{abc, of(x, y), of(x, x, y, y), of('a', 'c', x, y), nil} {
					r := api.Rule{Ante: row(of('1', '3')), Key: row(abc, s), Post: row(s), Result: pieces(api.Piece{Kind: kind, Unit: x, Key: y, To: s}), Cursor: y}
					q := api.Rule{Key: row(abc), Result: pieces(api.Piece{Kind: kind, Unit: x, To: abc}), Cursor: 1}
					one := api.Rule{Key: row(s), Result: pieces(api.Piece{Kind: kind, Unit: y, To: s}), Cursor: 1}
					last := api.Rule{Key: row(of('p', 'p')), Result: pieces(unit(x), unit('q')), Cursor: 2}
					for _, p := range []api.Pass{rules(r, q), rules(q, r), rules(one), rules(last, one), rules(one, q, last), rules(last)} {
						_, _, e := told(t, p)
						codes[e]++
					}
				}
			}
		}
	}
	if codes[api.OK] < 100 || len(codes) < 8 {
		t.Errorf("too few errors, or too many: %v", codes)
	}
	for _, n := range []int{257, 100000} {
		great := api.Rule{Ante: slices.Repeat(row(a), n), Key: slices.Repeat(row(a), n), Post: slices.Repeat(row(a), n)}
		is(t, rules(great), 0, api.ErrRuleKey)
		is(t, rules(slices.Repeat([]api.Rule{great}, n)...), 0, api.ErrRuleMany)
	}
}

func TestTheGreatestPasses(t *testing.T) { // R1
	// As many rules as may be, with as many sets, each with as many ranges, and all unlike.
	n := 0
	next := func(from int) api.Set {
		n++
		return every(from+2*(n%500), 512, 1001)
	}
	var p api.Pass
	for range 256 {
		r := api.Rule{Cursor: 8}
		for range 8 {
			r.Ante, r.Post = append(r.Ante, next(0x10000)), append(r.Post, next(0x10000))
			r.Key = append(r.Key, next(0x90000))
			r.Result = append(r.Result, paired(len(r.Key)-1, next(0x90001)))
		}
		// The images are alike, but for their last sets, which have no unit in common.
		for k := range 7 {
			r.Result[k].To = every(0x90000, 512, 1001)
		}
		r.Result[7].To = every(0x90001+2*len(p.Rules), 512, 1001)
		p.Rules = append(p.Rules, r)
	}
	turned, m, e := turn.Turn(p)
	if m != 0 || e != api.OK || !samePass(turned, turnByWords(p)) {
		t.Fatalf("%d rules, %d, %d", len(turned.Rules), m, e)
	}
	s, m, e := turn.Over(p)
	if s != nil || m != 256 || e != api.ErrTurnMany {
		t.Errorf("%d ranges, %d, %d", len(s), m, e)
	}
	// One unit of the last rule's last context is in the core; the last two rules' images meet.
	p.Rules[255].Post[7] = append(slices.Clone(p.Rules[255].Post[7][:511]), api.Range{Lo: 0x90001 + 1001*511, Hi: 0x90001 + 1001*511})
	if _, m, e := turn.Turn(p); m != 255 || e != api.ErrTurnContext {
		t.Errorf("%d, %d", m, e)
	}
	p.Rules[255].Post = nil
	p.Rules[255].Result[7].To = p.Rules[254].Result[7].To
	if _, m, e := turn.Turn(p); m != 255 || e != api.ErrTurnTwice {
		t.Errorf("%d, %d", m, e)
	}
}

func TestNilAndEmptyAreTheSame(t *testing.T) { // R3
	m := made(211, 2, 0)
	for range 600 {
		p := m.pass(4)
		q := api.Pass{Rules: append([]api.Rule{}, p.Rules...)}
		for i, r := range q.Rules {
			r.Ante, r.Post = append([]api.Set{}, r.Ante...), append([]api.Set{}, r.Post...)
			r.Result = append([]api.Piece{}, r.Result...)
			for k := range r.Result {
				r.Result[k].To = append(api.Set{}, r.Result[k].To...)
			}
			q.Rules[i] = r
		}
		one, n, e := told(t, p)
		other, k, f := told(t, q)
		if n != k || e != f || !samePass(one, other) {
			t.Fatalf("%s: %s, %d, %d, and %s, %d, %d", brief(p), brief(one), n, e, brief(other), k, f)
		}
		// Two rules of which the one is the other with empty lists are the same.
		if len(p.Rules) > 0 && e == api.OK {
			is(t, rules(p.Rules[0], q.Rules[0]), 0, api.OK)
		}
	}
	is(t, api.Pass{Rules: []api.Rule{}}, 0, api.OK)
	is(t, rules(api.Rule{Key: row(a), Result: pieces(api.Piece{Kind: api.PUnit, Unit: 'x', To: api.Set{}}), Cursor: 1}), 0, api.OK)
}

func TestWhatIsNotNamedIsZero(t *testing.T) { // R3: in the turned pass's pieces
	m := made(212, 0, 0)
	kinds := map[int]int{}
	for range 1500 {
		for _, r := range back(t, m.fine(6)).Rules {
			for _, x := range r.Result {
				kinds[x.Kind]++
				if x.Kind == api.PUnit && (x.Key != 0 || len(x.To) > 0) || x.Kind != api.PUnit && x.Unit != 0 || x.Kind == api.PCopy && len(x.To) > 0 {
					t.Fatalf("%v", x)
				}
			}
		}
	}
	if len(kinds) != 3 || kinds[api.PUnit] < 500 || kinds[api.PCopy] < 500 || kinds[api.PPair] < 500 {
		t.Errorf("%v", kinds)
	}
}

// roomy is a copy of a list with spare room behind it that has something in it.
func roomy[T any](l []T, spare T) []T {
	return append(slices.Clone(l), spare, spare, spare)[:len(l)]
}

func roomySets(l []api.Set) []api.Set {
	out := roomy(l, of(-7, -8))
	for i, s := range out {
		out[i] = roomy(s, api.Range{Lo: -7, Hi: -8})
	}
	return out
}

func roomyPass(p api.Pass) api.Pass {
	p.Rules = roomy(p.Rules, api.Rule{Cursor: -7})
	for i, r := range p.Rules {
		r.Ante, r.Key, r.Post, r.Result = roomySets(r.Ante), roomySets(r.Key), roomySets(r.Post), roomy(r.Result, unit(-7))
		for k, x := range r.Result {
			r.Result[k].To = roomy(x.To, api.Range{Lo: -7, Hi: -8})
		}
		p.Rules[i] = r
	}
	return p
}

// seen tells all that stands in the lists of a pass, the spare room too.
func seen(p api.Pass) string {
	var b strings.Builder
	for _, r := range p.Rules[:cap(p.Rules)] {
		fmt.Fprint(&b, r)
		for _, l := range [][]api.Set{r.Ante, r.Key, r.Post} {
			for _, s := range l[:cap(l)] {
				fmt.Fprint(&b, s[:cap(s)])
			}
		}
		for _, x := range r.Result[:cap(r.Result)] {
			fmt.Fprint(&b, x, x.To[:cap(x.To)])
		}
	}
	return b.String()
}

func TestWhatIsHandedInStays(t *testing.T) { // R4
	for _, m := range []maker{made(213, 0, 0), made(214, 2, 3)} {
		for n := range 600 {
			p := m.pass(6)
			if n%2 == 0 {
				p = m.fine(6)
			}
			p = roomyPass(p)
			before := seen(p)
			turned, _, _ := turn.Turn(p)
			over, _, _ := turn.Over(p)
			if seen(p) != before {
				t.Fatalf("what was handed in has changed: %s", brief(p))
			}
			// Nor by who writes into what was answered.
			for i := range over[:cap(over)] {
				over[:cap(over)][i] = api.Range{Lo: -1, Hi: -1}
			}
			spoil(turned)
			if seen(p) != before {
				t.Fatalf("what was handed in stands in the answer: %s", brief(p))
			}
		}
	}
}

// spoil writes other things into all lists of a pass, the spare room too.
func spoil(p api.Pass) {
	for i, r := range p.Rules {
		for _, l := range [][]api.Set{r.Ante, r.Key, r.Post} {
			for _, s := range l {
				marks(s, -3)
			}
			for k := range l[:cap(l)] {
				l[:cap(l)][k] = of(-4, -4)
			}
		}
		for _, x := range r.Result {
			marks(x.To, -5)
		}
		for k := range r.Result[:cap(r.Result)] {
			r.Result[:cap(r.Result)][k] = unit(-6)
		}
		p.Rules[i] = api.Rule{Cursor: -9}
	}
}

// marks writes a number into all of a set, its spare room too.
func marks(s api.Set, n int) {
	s = s[:cap(s)]
	for i := range s {
		s[i] = api.Range{Lo: n, Hi: i}
	}
}

func marked(s api.Set, n int) bool {
	for i, r := range s[:cap(s)] {
		if r != (api.Range{Lo: n, Hi: i}) {
			return false
		}
	}
	return true
}

// setsOf is all sets of a pass.
func setsOf(p api.Pass) []api.Set {
	var l []api.Set
	for _, r := range p.Rules {
		l = slices.Concat(l, r.Ante, r.Key, r.Post)
		for _, x := range r.Result {
			l = append(l, x.To)
		}
	}
	return l
}

// rowsOf is all rows of sets of a pass, and piecesOf all results.
func rowsOf(p api.Pass) [][]api.Set {
	var l [][]api.Set
	for _, r := range p.Rules {
		l = append(l, r.Ante, r.Key, r.Post)
	}
	return l
}

func piecesOf(p api.Pass) [][]api.Piece {
	var l [][]api.Piece
	for _, r := range p.Rules {
		l = append(l, r.Result)
	}
	return l
}

// apart holds that no two lists of some passes share memory.
func apart(t *testing.T, l ...api.Pass) {
	t.Helper()
	all := api.Pass{}
	for _, p := range l {
		all.Rules = append(all.Rules, p.Rules...)
	}
	sets := setsOf(all)
	for n, s := range sets {
		marks(s, n)
	}
	for n, s := range sets {
		if !marked(s, n) {
			t.Fatalf("set %d of %d shares its memory", n, len(sets))
		}
	}
	for n, l := range rowsOf(all) {
		for k := range l[:cap(l)] {
			l[:cap(l)][k] = of(n, k)
		}
	}
	for n, l := range rowsOf(all) {
		for k, s := range l[:cap(l)] {
			if !slices.Equal(s, of(n, k)) {
				t.Fatalf("row %d shares its memory", n)
			}
		}
	}
	for n, l := range piecesOf(all) {
		for k := range l[:cap(l)] {
			l[:cap(l)][k] = api.Piece{Unit: n, Key: k}
		}
	}
	for n, l := range piecesOf(all) {
		for k, x := range l[:cap(l)] {
			if x.Unit != n || x.Key != k {
				t.Fatalf("result %d shares its memory", n)
			}
		}
	}
}

func TestAnswersAreNewMemory(t *testing.T) { // R4
	for _, text := range []string{"", "a > x", "a > @1@1@1", "[ab] > @1", "[ab] > @1:[xy]", "a > @1@1 ; a > @1@1", "^ 1 { [ab] } 1 $ > @1:[xy] ; ^ 1 { [ab] } 1 $ > @1:[xy]", "[ab][cd]e > @2@3@3@1:[xy]", "[ab] > @1:[ab]"} {
		p := read(t, text)
		want := turnByWords(p)
		one, other := back(t, p), back(t, p)
		// Those of two answers, and of what was handed in.
		spoil(one)
		if !samePass(other, want) {
			t.Fatalf("%s: two answers share memory", text)
		}
		if later := back(t, p); !samePass(later, want) {
			t.Fatalf("%s: what was answered is answered again", text)
		}
		apart(t, other, back(t, p), read(t, text), p)
	}
	m := made(215, 0, 0)
	for range 600 {
		p := m.fine(6)
		one, other := back(t, p), back(t, p)
		apart(t, own(p), one, other)
	}
	for _, text := range []string{"", "a > x", "[a-c] > @1:[x-z]", "a } 1 > x ; a > x"} {
		p := read(t, text)
		want := overSet(p)
		one, _, _ := turn.Over(p)
		other, _, _ := turn.Over(p)
		marks(one, -1)
		if !slices.Equal(other, want) {
			t.Errorf("%s: two answers share memory", text)
		}
		if later, _, _ := turn.Over(p); !slices.Equal(later, want) {
			t.Errorf("%s: what was answered is answered again", text)
		}
	}
}

// own is a copy of a pass, each list of it by itself: the maker's rules may share some.
func own(p api.Pass) api.Pass {
	q := api.Pass{Rules: slices.Clone(p.Rules)}
	for i, r := range q.Rules {
		for _, l := range []*[]api.Set{&r.Ante, &r.Key, &r.Post} {
			*l = slices.Clone(*l)
			for k, s := range *l {
				(*l)[k] = slices.Clone(s)
			}
		}
		r.Result = slices.Clone(r.Result)
		for k, x := range r.Result {
			r.Result[k].To = slices.Clone(x.To)
		}
		q.Rules[i] = r
	}
	return q
}

func TestWhatIsHandedInIsNotKept(t *testing.T) { // R4
	m := made(216, 0, 0)
	for range 400 {
		p := roomyPass(m.fine(6))
		other := own(p)
		turned := back(t, p)
		over, n, e := turn.Over(p)
		kept, set := own(turned), slices.Clone(over)
		spoil(p)
		if !samePass(turned, kept) || !slices.Equal(over, set) {
			t.Fatalf("%s: what was handed in stands in the answer", brief(other))
		}
		if later := back(t, other); !samePass(later, kept) {
			t.Fatalf("%s: %s, and %s later", brief(other), brief(kept), brief(later))
		}
		if later, m, f := turn.Over(other); !slices.Equal(later, set) || m != n || f != e {
			t.Fatalf("%s: %s, and %s later", brief(other), shown(set), shown(later))
		}
	}
}

func TestOneAnswer(t *testing.T) { // R5: earlier calls are not seen
	good := read(t, "[ab]c > @1:[xy] ; 1 { d } $ > ee ; d > zf ; [ab] > @1")
	want, gone := turnByWords(good), overSet(good)
	for _, rules := range []string{"", "a > b ; c > d", "a > ", "[ab] > x", "c > dddddddddd", "a > | a", "a > @1 ; [^a] > @1", "1 { a > 1"} {
		other := read(t, rules)
		for range 3 {
			turn.Turn(other)
			turn.Over(other)
			if got, n, e := turn.Turn(good); !samePass(got, want) || n != 0 || e != api.OK {
				t.Fatalf("behind %s: %s, %d, %d", rules, brief(got), n, e)
			}
			if got, n, e := turn.Over(good); !slices.Equal(got, gone) || n != 0 || e != api.OK {
				t.Fatalf("behind %s: %s, %d, %d", rules, shown(got), n, e)
			}
		}
	}
}

func TestOneAnswerHoweverOften(t *testing.T) { // R5: maps are gone through in any order
	m := made(217, 3, 0)
	for range 30 {
		p := m.pass(12)
		turned, n, e := told(t, p)
		over, k, f := turn.Over(p)
		for range 40 {
			if got, m, g := turn.Turn(p); !samePass(got, turned) || m != n || g != e {
				t.Fatalf("%s: %s, and %s", brief(p), brief(turned), brief(got))
			}
			if got, m, g := turn.Over(p); !slices.Equal(got, over) || m != k || g != f {
				t.Fatalf("%s: %s, and %s", brief(p), shown(over), shown(got))
			}
		}
	}
}

func TestManyCallersSideBySide(t *testing.T) { // R5
	m := made(218, 0, 0)
	var wait sync.WaitGroup
	for range 12 {
		p := m.fine(10)
		turned := back(t, p)
		over, k, f := turn.Over(p)
		for range 4 {
			wait.Go(func() {
				for range 20 {
					if got, n, e := turn.Turn(p); !samePass(got, turned) || n != 0 || e != api.OK {
						t.Errorf("%s: %s, %d, %d", brief(p), brief(got), n, e)
					}
					if got, n, e := turn.Over(p); !slices.Equal(got, over) || n != k || e != f {
						t.Errorf("%s: %s, %d, %d", brief(p), shown(got), n, e)
					}
				}
			})
		}
	}
	wait.Wait()
}

func TestRefusedAsByWeigh(t *testing.T) { // R2, R8
	m := made(219, 1, 1)
	odd := 0
	for range 2000 {
		p := m.pass(3)
		if n, e := weigh.Check(p); e != api.OK {
			odd++
			is(t, p, n, e)
		}
	}
	if odd < 300 {
		t.Errorf("only %d passes may not be", odd)
	}
}
