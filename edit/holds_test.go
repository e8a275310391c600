package edit_test

import (
	"fmt"
	"math"
	"math/rand"
	"slices"
	"strings"
	"sync"
	"testing"

	"respell/api"
	"respell/edit"
	"respell/pass"
	"respell/weigh"
)

// What holds everywhere: R1 to R5, R7, R8.

func TestEveryCallEnds(t *testing.T) { // R1, R2
	numbers := []int{math.MinInt, math.MinInt + 1, -1, 0, 1, 2, 'a', maxRune, firstRaw, math.MaxInt - 1, math.MaxInt}
	fine := 0
	for _, x := range numbers {
		for _, y := range numbers {
			for kind := -1; kind <= 4; kind++ {
				for _, s := range []api.Set{abc, of(x, y), of(x, x, y, y), of('a', 'c', x, y), nil} {
					r := api.Rule{Ante: row(abc), Key: row(abc, s), Post: row(s), Result: pieces(api.Piece{Kind: kind, Unit: x, Key: y, To: s}), Cursor: y}
					p := rules(r, api.Rule{Key: row(abc), Result: pieces(api.Piece{Kind: kind, Key: x, To: abc}), Cursor: x})
					q := rules(api.Rule{Key: row(abc, s), Post: row(s), Result: pieces(unit(max(x, 'x')), again(1), paired(1, s)), Cursor: 3}, api.Rule{Key: row(s), Result: pieces(api.Piece{Kind: kind}), Cursor: 1})
					for _, p := range []api.Pass{p, q} {
						if _, e := weigh.Check(p); e != api.OK {
							refuses(t, p, "abcab", e)
							continue
						}
						fine++
						one := start(t, p, "abcab")
						one.put(t, 2, 3, "c\xE2")
						one.put(t, 0, 1, "")
					}
				}
			}
		}
	}
	if fine < 50 {
		t.Errorf("only %d passes may be", fine)
	}
	for _, n := range []int{257, 100000} {
		long := api.Rule{Ante: slices.Repeat(row(a), n), Key: slices.Repeat(row(a), n), Post: slices.Repeat(row(a), n)}
		refuses(t, rules(long), "a", api.ErrRuleKey)
		refuses(t, rules(slices.Repeat([]api.Rule{long}, n)...), "a", api.ErrRuleMany)
	}
}

func TestTheGreatestPasses(t *testing.T) { // R1: 256 rules, as long as they may be, all sets with 512 ranges
	most := make(api.Set, 512)
	for i := range most {
		most[i] = api.Range{Lo: 0x10000 + 3*i, Hi: 0x10000 + 3*i + 1}
	}
	var p api.Pass
	for n := range 256 {
		r := api.Rule{Ante: slices.Repeat(row(most), 8), Key: slices.Repeat(row(most), 8), Post: slices.Repeat(row(most), 8), Begin: n%2 == 0, End: n < 255}
		p.Rules = append(p.Rules, r)
	}
	u := "\U00010000"
	x := begin(t, p, strings.Repeat(u, 60))
	for _, c := range []struct {
		from, to int
		b        string
	}{{0, 4, "b"}, {100, 100, u}, {len(x.Source()) - 3, len(x.Source()) - 3, "b"}} {
		if _, e := x.Edit(c.from, c.to, c.b); e != api.OK {
			t.Fatal(e)
		}
		if want, _ := pass.Run(p, x.Source()); x.Result() != want {
			t.Errorf("%v: %d bytes, not %d", c, len(x.Result()), len(want))
		}
	}
}

// A pass whose steps put back as much as they may, each time.
func TestMuchIsPutBack(t *testing.T) { // R1
	for _, text := range []string{"a > | bbbbbbbbbbbbbbbb ; b > | cc ; c > d", "a > | bbb ; b > | ccc ; c > | dde ; ddddddd > x ; e > | d ; dddf > y"} {
		x := start(t, read(t, text), "aab")
		for _, s := range []string{"a", "aa", "", "b", "ac", "d", "ddd", "f"} {
			x.put(t, 1, 1, s)
			x.put(t, len(x.source), len(x.source), s)
			x.put(t, 0, 1, s)
		}
	}
}

// Any bytes whatever, and any numbers as places.
func TestAnyBytes(t *testing.T) { // R1
	m := made(184)
	for range 600 {
		b := make([]byte, m.Intn(40))
		m.Read(b)
		x := start(t, m.any(5), string(b))
		for range 6 {
			b = b[:m.Intn(len(b)+1)]
			m.Read(b)
			from := m.Intn(len(x.source) + 1)
			x.put(t, from, from+m.Intn(len(x.source)-from+1), string(b))
			x.steady(t, m, 40)
			if from, to := int(m.Uint64()), int(m.Uint64()); from < 0 || from > to || to > len(x.source) {
				denies(t, x.Text, from, to, string(b), api.ErrEditPlace)
			}
		}
	}
}

func TestNilAndEmptyAreTheSame(t *testing.T) { // R3
	for _, text := range []string{"", "a > b ; c > ", "ab > | bb", "^ { a } $ > x", "a } b > x ; a > @1"} {
		p := read(t, text)
		q := api.Pass{Rules: append([]api.Rule{}, p.Rules...)}
		for i, r := range q.Rules {
			r.Ante, r.Post = append([]api.Set{}, r.Ante...), append([]api.Set{}, r.Post...)
			r.Result = append([]api.Piece{}, r.Result...)
			for k := range r.Result {
				r.Result[k].To = api.Set{}
			}
			q.Rules[i] = r
		}
		x, y := begin(t, p, "abcab"), begin(t, q, "abcab")
		for _, s := range []string{"", "a", "ab", "c\xE2", "\x82", "a"} {
			b, e := x.Edit(1, 2, s)
			if c, f := y.Edit(1, 2, s); b != c || e != f {
				t.Errorf("%s, %q: %v, and %v", text, s, b, c)
			}
			is(t, y, x.Source(), x.Result(), x.Redone())
		}
	}
}

// roomy is a copy of a list with spare room behind it that has something in it.
func roomy[T any](l []T, spare T) []T {
	return append(slices.Clone(l), spare, spare, spare)[:len(l)]
}

func roomySets(l []api.Set) []api.Set {
	out := roomy(l, of(-7, -8))
	for i, s := range out {
		out[i] = roomy(s, api.Range{Lo: -7, Hi: -8})
	}
	return out
}

func roomyPass(p api.Pass) api.Pass {
	p.Rules = roomy(p.Rules, api.Rule{Cursor: -7})
	for i, r := range p.Rules {
		r.Ante, r.Key, r.Post, r.Result = roomySets(r.Ante), roomySets(r.Key), roomySets(r.Post), roomy(r.Result, unit(-7))
		for k, x := range r.Result {
			r.Result[k].To = roomy(x.To, api.Range{Lo: -7, Hi: -8})
		}
		p.Rules[i] = r
	}
	return p
}

// seen tells all that stands in the lists of a pass, the spare room too.
func seen(p api.Pass) string {
	var b strings.Builder
	for _, r := range p.Rules[:cap(p.Rules)] {
		fmt.Fprint(&b, r)
		for _, l := range [][]api.Set{r.Ante, r.Key, r.Post} {
			for _, s := range l[:cap(l)] {
				fmt.Fprint(&b, s[:cap(s)])
			}
		}
		for _, x := range r.Result[:cap(r.Result)] {
			fmt.Fprint(&b, x, x.To[:cap(x.To)])
		}
	}
	return b.String()
}

func TestWhatIsHandedInStays(t *testing.T) { // R4
	for _, wrong := range []int{0, 20} {
		m := maker{rand.New(rand.NewSource(185)), 10, wrong}
		for range 400 {
			p := m.pass(8)
			if wrong == 0 {
				p = m.any(8)
			}
			p = roomyPass(p)
			before := seen(p)
			x, e := edit.New(p, m.text(20))
			if e == api.OK {
				for range 5 {
					from, to, b := m.change(x.Source())
					x.Edit(from, to, b)
					from, to, b = m.change(x.Source())
					x.Clone().Edit(from, to, b)
				}
			}
			if seen(p) != before {
				t.Fatalf("what was handed in has changed: %s", brief(p))
			}
		}
	}
}

// spoilt are ways to change a pass in place, each in another list of it.
var spoilt = []func(p api.Pass){
	func(p api.Pass) { p.Rules[0] = api.Rule{} },
	func(p api.Pass) { clear(p.Rules) },
	func(p api.Pass) { p.Rules[1].Cursor = 99 },
	func(p api.Pass) { p.Rules[0].Begin, p.Rules[1].End = true, true },
	func(p api.Pass) { p.Rules[0].Ante[0] = nil },
	func(p api.Pass) { p.Rules[0].Ante[0][0] = api.Range{Lo: 'q', Hi: 'q'} },
	func(p api.Pass) { p.Rules[0].Key[0] = of('q', 'q') },
	func(p api.Pass) { p.Rules[0].Key[0][0] = api.Range{Lo: 'q', Hi: 'q'} },
	func(p api.Pass) { p.Rules[0].Key[1][0] = api.Range{Lo: 'q', Hi: 'q'} },
	func(p api.Pass) { p.Rules[0].Key[1][0] = api.Range{Lo: 9, Hi: -9} },
	func(p api.Pass) { p.Rules[0].Post[0] = nil },
	func(p api.Pass) { p.Rules[0].Post[0][0].Hi = -1 },
	func(p api.Pass) { p.Rules[0].Result[0] = api.Piece{} },
	func(p api.Pass) { p.Rules[0].Result[0].Unit = 'q' },
	func(p api.Pass) { p.Rules[0].Result[1].To[0] = api.Range{Lo: 'p', Hi: 'q'} },
	func(p api.Pass) { p.Rules[0].Result[1].To[0].Hi = 'z' },
	func(p api.Pass) { p.Rules[0].Result[1].To = nil },
	func(p api.Pass) { p.Rules[0].Result[2].Key = 7 },
}

// told is all that some Edits tell, with what is done ahead of the n-th one.
func told(x *edit.Text, n int, does func()) []string {
	var l []string
	for i, b := range []string{"ab", "y", "", "xab", "\xE2", "yaby", "x", ""} {
		if i == n {
			does()
		}
		from := 3 * i % (len(x.Source()) + 1)
		k, e := x.Edit(from, min(from+i%3, len(x.Source())), b)
		c := x.Clone()
		l = append(l, fmt.Sprint(k, e, x.Source(), x.Result(), x.Redone(), c.Source(), c.Result(), c.Redone()))
	}
	return l
}

func TestThePassIsNotKept(t *testing.T) { // R4: what is written into it later is not seen
	const text, over = "x { ab } y > x | @1:[c] @2 ; x { cb > x ; a > xx", "xabyaabyaby"
	want := told(begin(t, read(t, text), over), -1, nil)
	for n, spoil := range spoilt {
		for at := range len(want) {
			p := read(t, text)
			x := begin(t, p, over)
			if got := told(x, at, func() { spoil(p) }); !slices.Equal(got, want) {
				t.Errorf("%d at %d: %q, not %q", n, at, got, want)
			}
		}
	}
}

func TestTextsDoNotSeeOneAnother(t *testing.T) { // R5
	m := made(186)
	var all []*both
	for range 12 {
		p, text := m.any(6), m.text(12)
		all = append(all, start(t, p, text), start(t, p, text))
	}
	for range 800 {
		x := pick(m, all...)
		from, to, b := m.change(x.source)
		x.put(t, from, to, b)
		x.steady(t, m, 20)
		refuses(t, read(t, "a > | a"), "a", api.ErrWeighMost)
		denies(t, pick(m, all...).Text, 2, 1, "", api.ErrEditPlace)
	}
	for _, x := range all {
		x.asks(t)
	}
}

func TestClone(t *testing.T) { // P16.5, R7
	p := read(t, "a > x ; ab > y ; y { c > | de ; def > z ; ^ y { d > f ; e } $ > g")
	// Ahead of some Edits and behind them; Redone is the clone's, too.
	x := begin(t, p, "abcaab")
	c := x.Clone()
	is(t, c, "abcaab", "yfexy", 0)
	x.Edit(2, 3, "abc")
	is(t, c, "abcaab", "yfexy", 0)
	d := x.Clone()
	is(t, d, x.Source(), x.Result(), x.Redone())
	if x.Redone() == 0 {
		t.Error("nothing was done anew")
	}
	denies(t, d, 9, 99, "", api.ErrEditPlace)
	source, result, redone := d.Source(), d.Result(), d.Redone()
	// What the one does is not seen at the others, and the other way round.
	x.Edit(0, len(x.Source()), "q")
	is(t, d, source, result, redone)
	e := d.Clone()
	d.Edit(0, 0, "ab")
	is(t, x, "q", "q", 1)
	is(t, e, source, result, redone)
	// Both answer the same from where they parted.
	for _, one := range []*edit.Text{e, e.Clone(), e.Clone().Clone()} {
		f := one.Clone()
		f.Edit(0, 0, "ab")
		is(t, f, d.Source(), d.Result(), d.Redone())
		is(t, one, source, result, redone)
	}
}

// Two that part at one state, and whose later states stand at the same places.
func TestClonesPart(t *testing.T) { // R7
	p := read(t, "bb { a > B ; cc { a > C ; d > | bc ; bcb > 1 ; bcc > 2")
	all := []*both{start(t, p, "xaxaxa")}
	for range 5 {
		for _, one := range slices.Clone(all) {
			c := one.clone()
			one.put(t, 1, 1, "cc")
			c.put(t, 1, 1, "bb")
			one.put(t, len(one.source), len(one.source), "d")
			c.put(t, len(c.source), len(c.source), "db")
			one.put(t, len(one.source), len(one.source), "c")
			one.asks(t)
			c.put(t, 2, 4, "")
			c.asks(t)
			one.put(t, 0, 1, "")
			all = append(all, c)
		}
		for _, x := range all {
			x.asks(t)
		}
	}
}

// Clones in goroutines of their own share a pass and a run, and nothing that changes.
func TestSideBySide(t *testing.T) { // R5, R7
	m := made(187)
	for range 20 {
		x := start(t, m.any(10), m.text(20))
		x.put(t, 0, 0, m.text(5))
		type one struct {
			from, to int
			b        string
		}
		var wait sync.WaitGroup
		for range 8 {
			c := x.Clone()
			source := x.source
			var l []one
			var want []string
			slow := x.clone()
			for range 6 {
				from, to, b := m.change(source)
				l = append(l, one{from, to, b})
				slow.put(t, from, to, b)
				source = slow.source
				want = append(want, fmt.Sprint(slow.Source(), slow.Result(), slow.Redone()))
			}
			wait.Go(func() {
				var got []string
				for _, k := range l {
					c.Edit(k.from, k.to, k.b)
					c.Clone().Edit(0, 0, "a")
					got = append(got, fmt.Sprint(c.Source(), c.Result(), c.Redone()))
				}
				if !slices.Equal(got, want) {
					t.Errorf("%s: %q, not %q", brief(x.pass), got, want)
				}
			})
		}
		wait.Wait()
		x.asks(t)
		x.put(t, 0, 0, "a")
	}
}

// Answers that were told stay what they were.
func TestAnswersStay(t *testing.T) { // R4
	m := made(188)
	for range 200 {
		x := start(t, m.any(8), m.text(20))
		var got, want []string
		for range 10 {
			got = append(got, x.Source(), x.Result())
			want = append(want, strings.Clone(x.Source()), strings.Clone(x.Result()))
			from, to, b := m.change(x.source)
			x.put(t, from, to, b)
		}
		if !slices.Equal(got, want) {
			t.Fatalf("%q, not %q", got, want)
		}
	}
}
