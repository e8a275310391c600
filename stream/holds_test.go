package stream_test

import (
	"fmt"
	"math"
	"math/rand"
	"slices"
	"strings"
	"sync"
	"testing"

	"respell/api"
	"respell/stream"
	"respell/weigh"
)

// What holds everywhere: R1 to R5, R7.

func TestEveryCallEnds(t *testing.T) { // R1, R2
	numbers := []int{math.MinInt, math.MinInt + 1, -1, 0, 1, 2, 'a', maxRune, firstRaw, math.MaxInt - 1, math.MaxInt}
	fine := 0
	for _, x := range numbers {
		for _, y := range numbers {
			for kind := -1; kind <= 4; kind++ {
				for _, s := range []api.Set{abc, of(x, y), of(x, x, y, y), of('a', 'c', x, y), nil} {
					r := api.Rule{Ante: row(abc), Key: row(abc, s), Post: row(s), Result: pieces(api.Piece{Kind: kind, Unit: x, Key: y, To: s}), Cursor: y}
					p := rules(r, api.Rule{Key: row(abc), Result: pieces(api.Piece{Kind: kind, Key: x, To: abc}), Cursor: x})
					q := rules(api.Rule{Key: row(abc, s), Post: row(s), Result: pieces(unit(max(x, 'x')), again(1), paired(1, s)), Cursor: 3}, api.Rule{Key: row(s), Result: pieces(api.Piece{Kind: kind}), Cursor: 1})
					for _, p := range []api.Pass{p, q} {
						if _, e := weigh.Check(p); e != api.OK {
							refuses(t, p, e)
							continue
						}
						fine++
						one := start(t, p)
						one.put(t, "abcab")
						one.put(t, "c\xE2")
						one.close(t)
					}
				}
			}
		}
	}
	if fine < 50 {
		t.Errorf("only %d passes may be", fine)
	}
	for _, n := range []int{257, 100000} {
		long := api.Rule{Ante: slices.Repeat(row(a), n), Key: slices.Repeat(row(a), n), Post: slices.Repeat(row(a), n)}
		refuses(t, rules(long), api.ErrRuleKey)
		refuses(t, rules(slices.Repeat([]api.Rule{long}, n)...), api.ErrRuleMany)
	}
}

func TestTheGreatestPasses(t *testing.T) { // R1: 256 rules, as long as they may be, all sets with 512 ranges
	most := make(api.Set, 512)
	for i := range most {
		most[i] = api.Range{Lo: 0x10000 + 3*i, Hi: 0x10000 + 3*i + 1}
	}
	var p api.Pass
	for n := range 256 {
		r := api.Rule{Ante: slices.Repeat(row(most), 8), Key: slices.Repeat(row(most), 8), Post: slices.Repeat(row(most), 8), End: n < 255}
		p.Rules = append(p.Rules, r)
	}
	x := begin(t, p)
	u := "\U00010000"
	puts(t, x, put{strings.Repeat(u, 16), strings.Repeat(u, 8), 32}, put{strings.Repeat(u, 8), "", 64}, put{u, "", 36}, put{"b", strings.Repeat(u, 9) + "b", 0})
}

// A pass whose steps put back as much as they may, each time.
func TestMuchIsPutBack(t *testing.T) { // R1
	p := read(t, "a > | bbbbbbbbbbbbbbbb ; b > | cc ; c > d")
	x := start(t, p)
	for _, s := range []string{"a", "aa", "", "b", "ac"} {
		x.put(t, s)
	}
	x.close(t)
	deep := read(t, "a > | bbb ; b > | ccc ; c > | dde ; ddddddd > x ; e > | d ; dddf > y")
	x = start(t, deep)
	for _, s := range []string{"a", "aa", "f", "b", "ac", "d", "ddd", "f"} {
		x.put(t, s)
	}
	x.close(t)
}

// Any bytes whatever.
func TestAnyBytes(t *testing.T) { // R1
	m := made(161)
	for range 1500 {
		x := start(t, pick(m, m.fine, m.deep)(5))
		for range m.Intn(6) {
			b := make([]byte, m.Intn(12))
			m.Read(b)
			x.put(t, string(b))
		}
		x.close(t)
	}
}

func TestNilAndEmptyAreTheSame(t *testing.T) { // R3
	for _, text := range []string{"", "a > b ; c > ", "ab > | bb", "^ { a } $ > x", "a } b > x ; a > @1"} {
		p := read(t, text)
		q := api.Pass{Rules: append([]api.Rule{}, p.Rules...)}
		for i, r := range q.Rules {
			r.Ante, r.Post = append([]api.Set{}, r.Ante...), append([]api.Set{}, r.Post...)
			r.Result = append([]api.Piece{}, r.Result...)
			for k := range r.Result {
				r.Result[k].To = api.Set{}
			}
			q.Rules[i] = r
		}
		x, y := begin(t, p), begin(t, q)
		for _, piece := range []string{"", "a", "ab", "c\xE2", "\x82", "a"} {
			if b, c := x.Put([]byte(piece)), y.Put([]byte(piece)); string(b) != string(c) || x.Held() != y.Held() {
				t.Errorf("%s, %q: %q, and %q", text, piece, b, c)
			}
			x.Put(nil)
			y.Put([]byte{})
		}
		if b, c := x.Close(), y.Close(); string(b) != string(c) {
			t.Errorf("%s: %q, and %q", text, b, c)
		}
	}
}

// roomy is a copy of a list with spare room behind it that has something in it.
func roomy[T any](l []T, spare T) []T {
	return append(slices.Clone(l), spare, spare, spare)[:len(l)]
}

func roomySets(l []api.Set) []api.Set {
	out := roomy(l, of(-7, -8))
	for i, s := range out {
		out[i] = roomy(s, api.Range{Lo: -7, Hi: -8})
	}
	return out
}

func roomyPass(p api.Pass) api.Pass {
	p.Rules = roomy(p.Rules, api.Rule{Cursor: -7})
	for i, r := range p.Rules {
		r.Ante, r.Key, r.Post, r.Result = roomySets(r.Ante), roomySets(r.Key), roomySets(r.Post), roomy(r.Result, unit(-7))
		for k, x := range r.Result {
			r.Result[k].To = roomy(x.To, api.Range{Lo: -7, Hi: -8})
		}
		p.Rules[i] = r
	}
	return p
}

// seen tells all that stands in the lists of a pass, the spare room too.
func seen(p api.Pass) string {
	var b strings.Builder
	for _, r := range p.Rules[:cap(p.Rules)] {
		fmt.Fprint(&b, r)
		for _, l := range [][]api.Set{r.Ante, r.Key, r.Post} {
			for _, s := range l[:cap(l)] {
				fmt.Fprint(&b, s[:cap(s)])
			}
		}
		for _, x := range r.Result[:cap(r.Result)] {
			fmt.Fprint(&b, x, x.To[:cap(x.To)])
		}
	}
	return b.String()
}

func TestWhatIsHandedInStays(t *testing.T) { // R4
	for _, wrong := range []int{0, 20} {
		m := maker{rand.New(rand.NewSource(162)), 10, wrong}
		for range 400 {
			p := m.pass(8)
			if wrong == 0 {
				p = m.fine(8)
			}
			p = roomyPass(p)
			before := seen(p)
			x, e := stream.New(p)
			if e == api.OK {
				for _, s := range m.cut(m.text(20)) {
					piece := roomy([]byte(s), 'q')
					x.Put(piece)
					x.Doubt()
					if string(piece[:len(s)+3]) != s+"qqq" {
						t.Fatalf("a piece has changed: %q", piece[:cap(piece)])
					}
				}
				x.Clone().Close()
				x.Close()
			}
			if seen(p) != before {
				t.Fatalf("what was handed in has changed: %s", brief(p))
			}
		}
	}
}

// Bytes that are written where a piece stood are not seen.
func TestPiecesAreNotKept(t *testing.T) { // R4
	m := made(163)
	for range 800 {
		p, text := pick(m, m.fine, m.deep)(8), m.text(20)
		x, slow := begin(t, p), &slow{pass: p}
		room := make([]byte, 64)
		for _, s := range m.cut(text) {
			n := copy(room, s)
			got := x.Put(room[:n])
			for i := range room {
				room[i] = 'a'
			}
			if want := slow.put(s); string(got) != want {
				t.Fatalf("%s, %q: %q, not %q", brief(p), s, got, want)
			}
		}
		if got, want := x.Close(), slow.close(); string(got) != want {
			t.Fatalf("%s: %q, not %q", brief(p), got, want)
		}
	}
}

// What is answered is new memory, with its spare room.
func TestAnswersAreNew(t *testing.T) { // R4
	m := made(164)
	spoil := func(b []byte) {
		b = b[:cap(b)]
		for i := range b {
			b[i] = 'b'
		}
	}
	for range 800 {
		p, text := pick(m, m.fine, m.deep)(8), m.text(20)
		x, slow := begin(t, p), &slow{pass: p}
		var told [][]byte
		var want []string
		for _, s := range m.cut(text) {
			told, want = append(told, x.Put([]byte(s))), append(want, slow.put(s))
			if n := m.Intn(len(told)); m.Intn(2) == 0 {
				// The answers that stand are not touched by what is written over others, nor are later ones.
				spoil(told[n])
				want[n] = strings.Repeat("b", len(want[n]))
			}
			if m.Intn(4) == 0 {
				spoil(x.Clone().Put([]byte("a")))
				spoil(x.Clone().Close())
			}
		}
		told, want = append(told, x.Close()), append(want, slow.close())
		for n := range told {
			if string(told[n]) != want[n] {
				t.Fatalf("%s over %q: %q, not %q", brief(p), text, told[n], want[n])
			}
		}
	}
}

// spoilt are ways to change a pass in place, each in another list of it.
var spoilt = []func(p api.Pass){
	func(p api.Pass) { p.Rules[0] = api.Rule{} },
	func(p api.Pass) { clear(p.Rules) },
	func(p api.Pass) { p.Rules[1].Cursor = 99 },
	func(p api.Pass) { p.Rules[0].Begin, p.Rules[1].End = true, true },
	func(p api.Pass) { p.Rules[0].Ante[0] = nil },
	func(p api.Pass) { p.Rules[0].Ante[0][0] = api.Range{Lo: 'q', Hi: 'q'} },
	func(p api.Pass) { p.Rules[0].Key[0] = of('q', 'q') },
	func(p api.Pass) { p.Rules[0].Key[0][0] = api.Range{Lo: 'q', Hi: 'q'} },
	func(p api.Pass) { p.Rules[0].Key[1][0] = api.Range{Lo: 'q', Hi: 'q'} },
	func(p api.Pass) { p.Rules[0].Key[1][0] = api.Range{Lo: 9, Hi: -9} },
	func(p api.Pass) { p.Rules[0].Post[0] = nil },
	func(p api.Pass) { p.Rules[0].Post[0][0].Hi = -1 },
	func(p api.Pass) { p.Rules[0].Result[0] = api.Piece{} },
	func(p api.Pass) { p.Rules[0].Result[0].Unit = 'q' },
	func(p api.Pass) { p.Rules[0].Result[1].To[0] = api.Range{Lo: 'p', Hi: 'q'} },
	func(p api.Pass) { p.Rules[0].Result[1].To[0].Hi = 'z' },
	func(p api.Pass) { p.Rules[0].Result[1].To = nil },
	func(p api.Pass) { p.Rules[0].Result[2].Key = 7 },
}

func TestThePassIsNotKept(t *testing.T) { // R4: what is written into it later is not seen
	const text, over = "x { ab } y > x | @1:[c] @2 ; x { cb > x ; a > xx", "xabyaabyaby"
	var want []string
	x := begin(t, read(t, text))
	for i := range len(over) {
		want = append(want, toldOf(x, over[i:i+1])+fmt.Sprint(x.Held()))
	}
	want = append(want, string(x.Close()))
	for n, spoil := range spoilt {
		for at := range len(over) + 1 {
			p := read(t, text)
			x := begin(t, p)
			var got []string
			for i := range len(over) {
				if i == at {
					spoil(p)
				}
				if s, is := x.Doubt(); is && (len(s) == 0 || i == 0) {
					t.Errorf("%d at %d: %q", n, at, s)
				}
				got = append(got, toldOf(x, over[i:i+1])+fmt.Sprint(x.Held()))
			}
			if at == len(over) {
				spoil(p)
			}
			if got = append(got, string(x.Clone().Close())); !slices.Equal(got, want) {
				t.Errorf("%d at %d: %q, not %q", n, at, got, want)
			}
		}
	}
}

func TestStreamsDoNotSeeOneAnother(t *testing.T) { // R5
	m := made(165)
	var all []*both
	for range 12 {
		p := pick(m, m.fine, m.deep)(6)
		all = append(all, start(t, p), start(t, p))
	}
	for range 1500 {
		pick(m, all...).put(t, m.text(3))
		refuses(t, read(t, "a > | a"), api.ErrWeighMost)
	}
	for _, x := range all {
		x.close(t)
	}
}

// Clones in goroutines of their own share a pass, and nothing that changes.
func TestSideBySide(t *testing.T) { // R5, R7
	m := made(166)
	for range 20 {
		p := pick(m, m.fine, m.deep)(10)
		x := start(t, p)
		x.put(t, m.text(8))
		var wait sync.WaitGroup
		for range 8 {
			one := x.clone()
			var l, want []string
			for range 10 {
				l = append(l, m.text(3))
			}
			slow := one.slow
			for _, s := range l {
				want = append(want, slow.put(s))
			}
			want = append(want, slow.close())
			wait.Go(func() {
				var got []string
				for _, s := range l {
					got = append(got, string(one.Put([]byte(s))))
					one.Doubt()
					one.Clone().Close()
				}
				if got = append(got, string(one.Close())); !slices.Equal(got, want) {
					t.Errorf("%s over %q: %q, not %q", brief(p), l, got, want)
				}
			})
		}
		wait.Wait()
		x.put(t, "a")
		x.close(t)
	}
}
