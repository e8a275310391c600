package chain_test

import (
	"fmt"
	"math"
	"math/rand"
	"slices"
	"strings"
	"sync"
	"testing"

	"respell/api"
	"respell/chain"
	"respell/weigh"
)

// What holds everywhere: R1 to R5, R7 to R9.

func TestEveryCallEnds(t *testing.T) { // R1, R2, R8
	long(t)
	numbers := []int{math.MinInt, math.MinInt + 1, -1, 0, 1, 2, 'a', maxRune, firstRaw, math.MaxInt - 1, math.MaxInt}
	fine := 0
	for _, x := range numbers {
		for _, y := range numbers {
			for kind := -1; kind <= 4; kind++ {
				for _, s := range []api.Set{abc, of(x, y), of(x, x, y, y), of('a', 'c', x, y), nil} {
					r := api.Rule{Ante: row(abc), Key: row(abc, s), Post: row(s), Result: pieces(api.Piece{Kind: kind, Unit: x, Key: y, To: s}), Cursor: y}
					p := rules(r, api.Rule{Key: row(abc), Result: pieces(api.Piece{Kind: kind, Key: x, To: abc}), Cursor: x})
					q := rules(api.Rule{Key: row(abc, s), Post: row(s), Result: pieces(unit(max(x, 'x')), again(1), paired(1, s)), Cursor: 3}, api.Rule{Key: row(s), Result: pieces(api.Piece{Kind: kind}), Cursor: 1})
					for _, p := range []api.Pass{p, q} {
						l := passes(api.Pass{}, p, api.Pass{}, p)
						if _, e := weigh.Check(p); e != api.OK {
							refuses(t, l, 1, e)
							continue
						}
						fine++
						c := begin(t, l)
						same(t, l, c, "abcabc\xE2a")
						one := start(t, l, c)
						one.put(t, "abcab")
						one.put(t, "c\xE2")
						one.close(t)
					}
				}
			}
		}
	}
	if fine < 50 {
		t.Errorf("only %d passes may be", fine)
	}
	for _, n := range []int{257, 100000} {
		great := api.Rule{Ante: slices.Repeat(row(a), n), Key: slices.Repeat(row(a), n), Post: slices.Repeat(row(a), n)}
		refuses(t, passes(api.Pass{}, rules(great)), 1, api.ErrRuleKey)
		refuses(t, passes(api.Pass{}, api.Pass{}, rules(slices.Repeat([]api.Rule{great}, n)...)), 2, api.ErrRuleMany)
	}
}

func TestTheGreatestPasses(t *testing.T) { // R1: 256 rules, as long as they may be, all sets with 512 ranges
	long(t)
	most := make(api.Set, 512)
	for i := range most {
		most[i] = api.Range{Lo: 0x10000 + 3*i, Hi: 0x10000 + 3*i + 1}
	}
	var p api.Pass
	for n := range 256 {
		r := api.Rule{Ante: slices.Repeat(row(most), 8), Key: slices.Repeat(row(most), 8), Post: slices.Repeat(row(most), 8), End: n < 255}
		p.Rules = append(p.Rules, r)
	}
	c := begin(t, slices.Concat(passes(p), make([]api.Pass, 14), passes(p)))
	u := "\U00010000"
	// Of 150, eight go over; of the others eight are dropped, again and again, until fewer than sixteen are left.
	s, want := strings.Repeat(u, 150)+"b", strings.Repeat(u, 22)+"b"
	if got, e := c.Run(s); got != want || e != api.OK {
		t.Errorf("%d bytes, %d; want %d", len(got), e, len(want))
	}
	if got := toldOf(c.Stream(), s[:100], s[100:]); got != want {
		t.Errorf("%d bytes; want %d", len(got), len(want))
	}
}

// Passes whose units weigh as much as they may: all that is put back is done anew, to the end.
func TestTheHeaviestPasses(t *testing.T) { // R1, W3
	l := readAll(t, "a > | bbbbbbb ; b > | cccccccc ; then ; c > | deeeeee ; d > | ffffffff ; e > | ffffffff ; then ; f > ")
	if weigh.Weight(l[0], 'a') != 64 || weigh.Weight(l[1], 'c') != 64 {
		t.Fatalf("%d, %d", weigh.Weight(l[0], 'a'), weigh.Weight(l[1], 'c'))
	}
	c := begin(t, l)
	for n := range 6 {
		s := strings.Repeat("a", n) + "x"
		each, e := c.Each(s)
		want := texts(strings.Repeat("c", 56*n)+"x", strings.Repeat("f", 56*56*n)+"x", "x")
		if !slices.Equal(each, want) || e != api.OK {
			t.Errorf("%d: %.200q, %d", n, each, e)
		}
		one := start(t, l, c)
		for i := range len(s) {
			one.put(t, s[i:i+1])
		}
		one.close(t)
	}
	tooLong(t, c, "aaaaaa")
}

// Any bytes whatever.
func TestAnyBytes(t *testing.T) { // R1
	long(t)
	m := made(211)
	for n := range 800 {
		b := make([]byte, n%60)
		m.Read(b)
		l := m.passes(m.Intn(4))
		c := begin(t, l)
		want := same(t, l, c, string(b))
		if got := toldOf(c.Stream(), m.cut(string(b))...); got != want {
			t.Fatalf("%s over %q: %q, not %q", brief(l), b, got, want)
		}
	}
}

func TestNilAndEmptyAreTheSame(t *testing.T) { // R3
	for _, text := range []string{"", "a > b ; c > ", "ab > | bb ; then ; b > ", "^ { a } $ > x ; then ; then ; x > ", "a } b > x ; a > @1 ; then ; b > "} {
		l := readAll(t, text)
		k := append([]api.Pass{}, l...)
		for n, p := range k {
			k[n].Rules = append([]api.Rule{}, p.Rules...)
			for i, r := range k[n].Rules {
				r.Ante, r.Post = append([]api.Set{}, r.Ante...), append([]api.Set{}, r.Post...)
				r.Result = append([]api.Piece{}, r.Result...)
				for j := range r.Result {
					r.Result[j].To = api.Set{}
				}
				k[n].Rules[i] = r
			}
		}
		x, y := begin(t, l), begin(t, k)
		for _, s := range []string{"", "a", "abcac\xE2", "ab c ab"} {
			if same(t, l, x, s) != same(t, k, y, s) {
				t.Errorf("%s over %q", text, s)
			}
		}
		one, two := x.Stream(), y.Stream()
		for _, piece := range []string{"", "a", "ab", "c\xE2", "\x82", "a"} {
			if b, c := one.Put([]byte(piece)), two.Put([]byte(piece)); string(b) != string(c) || !slices.Equal(one.Held(), two.Held()) {
				t.Errorf("%s, %q: %q, and %q", text, piece, b, c)
			}
			if b, c := one.Put(nil), two.Put([]byte{}); len(b)+len(c) > 0 {
				t.Errorf("%s: %q, %q", text, b, c)
			}
		}
		if b, c := one.Close(), two.Close(); string(b) != string(c) {
			t.Errorf("%s: %q, and %q", text, b, c)
		}
	}
}

// roomy is a copy of a list with spare room behind it that has something in it.
func roomy[T any](l []T, spare T) []T {
	return append(slices.Clone(l), spare, spare, spare)[:len(l)]
}

func roomySets(l []api.Set) []api.Set {
	out := roomy(l, of(-7, -8))
	for i, s := range out {
		out[i] = roomy(s, api.Range{Lo: -7, Hi: -8})
	}
	return out
}

func roomyPass(p api.Pass) api.Pass {
	p.Rules = roomy(p.Rules, api.Rule{Cursor: -7})
	for i, r := range p.Rules {
		r.Ante, r.Key, r.Post, r.Result = roomySets(r.Ante), roomySets(r.Key), roomySets(r.Post), roomy(r.Result, unit(-7))
		for k, x := range r.Result {
			r.Result[k].To = roomy(x.To, api.Range{Lo: -7, Hi: -8})
		}
		p.Rules[i] = r
	}
	return p
}

// roomyPasses is a copy of a list of passes, with something in the spare room of all lists.
func roomyPasses(l []api.Pass) []api.Pass {
	out := roomy(l, rules(api.Rule{Cursor: -7}))
	for n, p := range out {
		out[n] = roomyPass(p)
	}
	return out
}

// seen tells all that stands in the lists of passes, the spare room too.
func seen(l []api.Pass) string {
	var b strings.Builder
	for _, p := range l[:cap(l)] {
		for _, r := range p.Rules[:cap(p.Rules)] {
			fmt.Fprint(&b, r)
			for _, l := range [][]api.Set{r.Ante, r.Key, r.Post} {
				for _, s := range l[:cap(l)] {
					fmt.Fprint(&b, s[:cap(s)])
				}
			}
			for _, x := range r.Result[:cap(r.Result)] {
				fmt.Fprint(&b, x, x.To[:cap(x.To)])
			}
		}
	}
	return b.String()
}

func TestWhatIsHandedInStays(t *testing.T) { // R4
	long(t)
	for _, wrong := range []int{0, 20} {
		m := maker{rand.New(rand.NewSource(212)), 10, wrong}
		for range 250 {
			l := m.passes(m.Intn(4))
			if wrong > 0 {
				l = append(l, m.pass(6))
			}
			l = roomyPasses(l)
			before := seen(l)
			c, _, e := chain.New(l)
			if e == api.OK {
				s := m.text(20)
				c.Run(s)
				c.Each(s)
				c.Blocks(s)
				c.Run(strings.Repeat("a", maxText+1))
				x := c.Stream()
				for _, s := range m.cut(s) {
					piece := roomy([]byte(s), 'q')
					x.Put(piece)
					if string(piece[:len(s)+3]) != s+"qqq" {
						t.Fatalf("a piece has changed: %q", piece[:cap(piece)])
					}
				}
				x.Clone().Close()
				x.Close()
			}
			if seen(l) != before {
				t.Fatalf("what was handed in has changed: %s", brief(l))
			}
		}
	}
	// Also where it takes none of them.
	l := roomyPasses(slices.Repeat(readAll(t, "a > b"), 17))
	before := seen(l)
	chain.New(l)
	if seen(l) != before {
		t.Errorf("what was handed in has changed: %s", brief(l))
	}
}

// spoilt are ways to change passes in place, each in another list of them.
var spoilt = []func(l []api.Pass){
	func(l []api.Pass) { l[0] = api.Pass{} },
	func(l []api.Pass) { clear(l) },
	func(l []api.Pass) { l[0], l[1] = l[1], l[0] },
	func(l []api.Pass) { l[1].Rules[0] = api.Rule{} },
	func(l []api.Pass) { clear(l[0].Rules) },
	func(l []api.Pass) { l[0].Rules[0] = api.Rule{} },
	func(l []api.Pass) { l[0].Rules[1].Cursor = 99 },
	func(l []api.Pass) { l[0].Rules[0].Begin, l[0].Rules[1].End = true, true },
	func(l []api.Pass) { l[0].Rules[0].Ante[0] = nil },
	func(l []api.Pass) { l[0].Rules[0].Ante[0][0] = api.Range{Lo: 'q', Hi: 'q'} },
	func(l []api.Pass) { l[0].Rules[0].Key[0] = of('q', 'q') },
	func(l []api.Pass) { l[0].Rules[0].Key[0][0] = api.Range{Lo: 'q', Hi: 'q'} },
	func(l []api.Pass) { l[0].Rules[0].Key[1][0] = api.Range{Lo: 9, Hi: -9} },
	func(l []api.Pass) { l[0].Rules[0].Post[0] = nil },
	func(l []api.Pass) { l[0].Rules[0].Post[0][0].Hi = -1 },
	func(l []api.Pass) { l[0].Rules[0].Result[0] = api.Piece{} },
	func(l []api.Pass) { l[0].Rules[0].Result[0].Unit = 'q' },
	func(l []api.Pass) { l[0].Rules[0].Result[1].To[0] = api.Range{Lo: 'p', Hi: 'q'} },
	func(l []api.Pass) { l[0].Rules[0].Result[1].To = nil },
	func(l []api.Pass) { l[0].Rules[0].Result[2].Key = 7 },
	func(l []api.Pass) { l[1].Rules[0].Key[0][0] = api.Range{Lo: 'y', Hi: 'y'} },
	func(l []api.Pass) { l[1].Rules[0].Result[0].Unit = 'q' },
}

func TestPassesAreNotKept(t *testing.T) { // R4: what is written into them later is not seen
	const text, over = "x { ab } y > x | @1:[c] @2 ; x { cb > x ; a > xx ; then ; xx > p ; yy > q", "xabyaabyaby"
	all := func(l []api.Pass, spoil func(l []api.Pass), at int) []string {
		c := begin(t, l)
		do := func(n int) {
			if n == at {
				spoil(l)
			}
		}
		do(0)
		x := c.Stream()
		do(1)
		var got []string
		for i := range len(over) {
			do(i + 2)
			got = append(got, string(x.Put([]byte(over[i:i+1])))+fmt.Sprint(x.Held()))
		}
		do(len(over) + 2)
		made, e := c.Run(over)
		each, _ := c.Each(over)
		blocks, _ := c.Blocks(over)
		return append(got, string(x.Close()), fmt.Sprint(made, e, each, blocks), toldOf(c.Stream(), over))
	}
	want := all(readAll(t, text), nil, -1)
	for n, spoil := range spoilt {
		for at := range len(over) + 3 {
			if got := all(readAll(t, text), spoil, at); !slices.Equal(got, want) {
				t.Errorf("%d at %d: %q, not %q", n, at, got, want)
			}
		}
	}
}

// Bytes that are written where a piece stood are not seen.
func TestPiecesAreNotKept(t *testing.T) { // R4
	m := made(213)
	for range 300 {
		l := m.passes(m.Intn(4))
		c := begin(t, l)
		x, words := c.Stream(), start(t, l, c)
		room := make([]byte, 64)
		var told []string
		var kept [][]byte
		for _, s := range m.cut(m.text(20)) {
			n := copy(room, s)
			kept = append(kept, x.Put(room[:n]))
			told = append(told, words.putByWords(s))
			for i := range room {
				room[i] = 'a'
			}
		}
		kept, told = append(kept, x.Close()), append(told, words.closeByWords())
		for n := range kept {
			if string(kept[n]) != told[n] {
				t.Fatalf("%s: %q, not %q", brief(l), kept[n], told[n])
			}
		}
	}
}

// spoil writes something else into a list and its spare room.
func spoil[T any](l []T, by T) {
	l = l[:cap(l)]
	for i := range l {
		l[i] = by
	}
}

// What is answered is new memory, with its spare room.
func TestAnswersAreNew(t *testing.T) { // R4
	m := made(214)
	for range 300 {
		l, s := m.passes(m.Intn(4)), m.text(20)
		c := begin(t, l)
		_, each, blocks, _ := ask(t, c, s)
		keptEach, keptBlocks := slices.Clone(each), slices.Clone(blocks)
		for range 2 {
			_, e, b, _ := ask(t, c, s)
			spoil(e, "!")
			spoil(b, api.Block{S0: -7})
			same(t, l, c, s)
		}
		if !slices.Equal(each, keptEach) || !slices.Equal(blocks, keptBlocks) {
			t.Fatalf("%s over %q: answers share memory", brief(l), s)
		}
		x := start(t, l, c)
		var told [][]byte
		var want []string
		for _, s := range m.cut(s) {
			piece := []byte(s)
			told, want = append(told, x.Put(piece)), append(want, x.putByWords(s))
			if n := m.Intn(len(told)); m.Intn(2) == 0 {
				// The answers that stand are not touched by what is written over others, nor are later ones, nor is what was handed in.
				spoil(told[n], 'b')
				want[n] = strings.Repeat("b", len(want[n]))
			}
			if string(piece) != s {
				t.Fatalf("%s: an answer shares memory with a piece", brief(l))
			}
			spoil(x.Held(), -7)
			x.asks(t)
			if m.Intn(4) == 0 {
				spoil(x.Clone().Put([]byte("a")), 'b')
				spoil(x.Clone().Close(), 'b')
				spoil(x.Clone().Held(), -7)
			}
		}
		told, want = append(told, x.Close()), append(want, x.closeByWords())
		for n := range told {
			if string(told[n]) != want[n] {
				t.Fatalf("%s over %q: %q, not %q", brief(l), s, told[n], want[n])
			}
		}
	}
}

func TestOneAnswer(t *testing.T) { // R5: earlier calls are not seen
	long(t)
	good := readAll(t, "^ { a > | bb ; b > c ; then ; x { é > ; a } $ > Z")
	const text, want = "axé ab xé a", "ccx ac x Z"
	c := begin(t, good)
	for _, rules := range []string{"", "a > b ; é > x", "^ { . > a ; then ; a > ", "c > | dddd ; x > | c"} {
		other := chained(t, rules)
		for _, s := range []string{"", text, "cab\xE2", strings.Repeat("a", maxText+1), strings.Repeat("a ", 300)} {
			for range 2 {
				ask(t, other, s)
				other.Stream().Put([]byte(s))
				ask(t, c, s)
				c.Stream().Put([]byte(s))
				refuses(t, readAll(t, "a > b ; then ; a > | a"), 1, api.ErrWeighMost)
				if got := same(t, good, c, text); got != want {
					t.Errorf("behind %s over %.60q: %q, not %q", rules, s, got, want)
				}
				if got := toldOf(c.Stream(), text); got != want {
					t.Errorf("behind %s over %.60q: %q, not %q", rules, s, got, want)
				}
			}
		}
	}
}

// A chain is asked by many at one time; streams of it, and clones, share nothing that changes.
func TestSideBySide(t *testing.T) { // P18.4, R5, R7
	m := made(215)
	for range 12 {
		l := m.passes(1 + m.Intn(4))
		c := begin(t, l)
		x := start(t, l, c)
		x.put(t, m.text(8))
		var wait sync.WaitGroup
		for n := range 8 {
			s := m.text(20)
			told := chainByWords(l, s)
			one := x.clone()
			if n%2 == 0 {
				one = start(t, l, c)
			}
			cut := m.cut(s)
			var want []string
			for _, piece := range cut {
				want = append(want, one.putByWords(piece))
			}
			want = append(want, one.closeByWords())
			wait.Go(func() {
				var got []string
				for _, piece := range cut {
					got = append(got, string(one.Put([]byte(piece))))
					one.Held()
					one.Clone().Close()
					c.Stream().Put([]byte(piece))
				}
				if got = append(got, string(one.Close())); !slices.Equal(got, want) {
					t.Errorf("%s over %q: %q, not %q", brief(l), cut, got, want)
				}
				each, e := c.Each(s)
				blocks, f := c.Blocks(s)
				if e != api.OK || f != api.OK || !slices.Equal(each, told.each) || !slices.Equal(blocks, told.blocks) {
					t.Errorf("%s over %q: %q, %v", brief(l), s, each, blocks)
				}
			})
		}
		wait.Wait()
		x.put(t, "a")
		x.close(t)
	}
}

func TestClones(t *testing.T) { // R7
	c := chained(t, "a > ; then ; € > E ; then ; EE > F")
	x := c.Stream()
	puts(t, x, put{"\xE2a\x82a\xAC\xE2a", "", []int{0, 1, 1}})
	y := x.Clone()
	z := y.Clone()
	closes(t, x, "E\xE2", 0, 0, 0)
	puts(t, y, put{"\x82\xAC", "F", []int{0, 0, 0}})
	w := x.Clone()
	puts(t, w, put{"a€", "", []int{0, 0, 0}})
	closes(t, w, "", 0, 0, 0)
	puts(t, z, put{"", "", []int{0, 1, 1}}, put{"b", "E\xE2b", []int{0, 0, 0}})
	closes(t, y, "", 0, 0, 0)
	closes(t, z, "", 0, 0, 0)
}

// What a stream keeps does not grow with what came.
func TestStreamsKeepLittle(t *testing.T) { // P18.5: Held is bounded as each pass's is
	c := chained(t, "ab > c ; a { b } $ > ; then ; cc > d ; then ; . } $ > e")
	x := c.Stream()
	for n := range 3000 {
		x.Put([]byte("abcéab"[n%7 : 7]))
		for k, h := range x.Held() {
			if h > 7 {
				t.Fatalf("%d: %d held", k, h)
			}
		}
	}
}
