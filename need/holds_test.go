package need_test

import (
	"fmt"
	"math"
	"slices"
	"strings"
	"sync"
	"testing"

	"respell/api"
	"respell/need"
	"respell/rule"
)

// What holds everywhere: R1, R3, R4, R5.

func TestEveryCallEnds(t *testing.T) { // R1
	numbers := []int{math.MinInt, math.MinInt + 1, -1, 0, 1, 2, 'a', 'c', maxRune, firstRaw, math.MaxInt - 1, math.MaxInt}
	fine := 0
	for _, x := range numbers {
		for _, y := range numbers {
			for _, s := range []api.Set{abc, of(x, y), of(x, x, y, y), of('a', 'c', x, y), nil} {
				for _, r := range []api.Rule{
					{Ante: row(s), Key: row(abc), Post: row(s), Cursor: x}, {Key: row(abc, s), Cursor: y}, {Key: row(s, s), Post: row(s), End: true},
					{Key: row(abc), Result: pieces(api.Piece{Kind: api.PPair, Key: y, To: s}, api.Piece{Kind: x, Unit: y})},
				} {
					p := rules(r, api.Rule{Key: row(a)})
					_, e := rule.All(p)
					for _, known := range []string{"", "a", "ab\xE2"} {
						n, is := need.Decide(p, []int{x, y}, []int{'a', x}[:1], known)
						if e != api.OK && (n != 0 || is) {
							t.Errorf("%s: %d %v", brief(p), n, is)
						}
						if e == api.OK {
							fine++
							want := n
							if !is {
								want = open
							}
							asks(t, p, []int{x, y}, []int{'a'}, known, want)
						}
					}
				}
			}
		}
	}
	if fine < 400 {
		t.Errorf("only %d passes may be", fine)
	}
}

// Any bytes whatever, at any place of a text.
func TestAnyBytes(t *testing.T) { // R1
	m := made(310)
	for range 3000 {
		p := m.pass(4)
		b := make([]byte, m.Intn(12))
		m.Read(b)
		n, is := need.Decide(p, nil, nil, string(b))
		if !is {
			n = open
		} else if n != stepByWords(p, nil, nil, string(b)).rule {
			t.Errorf("%s, %q: %d", brief(p), b, n)
		}
		asks(t, p, nil, nil, string(b), n)
	}
}

func TestTheGreatestPasses(t *testing.T) { // R1: 256 rules, as long as they may be, all sets with 512 ranges
	most := make(api.Set, 512)
	for i := range most {
		most[i] = api.Range{Lo: 0x10000 + 3*i, Hi: 0x10000 + 3*i + 1}
	}
	var p api.Pass
	for n := range 256 {
		r := api.Rule{Ante: slices.Repeat(row(most), 8), Key: slices.Repeat(row(most), 8), Post: slices.Repeat(row(most), 8), End: n < 255}
		p.Rules = append(p.Rules, r)
	}
	done, text := slices.Repeat([]int{0x10000}, 8), strings.Repeat("\U00010000", 17)
	asks(t, p, done, nil, text[:64], open)
	asks(t, p, done, nil, text, 255)
	asks(t, p, done, nil, text[:30], open)
	asks(t, p, done[1:], nil, text[:64], -1)
	asks(t, p, done, nil, "\U00010002", -1)
	asks(t, p, done, nil, "\U00010002"[:3], open)
}

// A set that leaves so many ranges of the runes that open bytes may become that they are no set.
func TestManyRanges(t *testing.T) { // P14.2
	most := make(api.Set, 511)
	for i := range most {
		most[i] = api.Range{Lo: 0x40001 + 3*i, Hi: 0x40001 + 3*i}
	}
	most = append(most, api.Range{Lo: 0x1100F1, Hi: 0x1100F1})
	p := rules(api.Rule{Key: row(a), Post: row(most)})
	asks(t, p, nil, nil, "a\xF1", open)
	most[0].Lo = 0x40000
	asks(t, p, nil, nil, "a\xF1", open)
	asks(t, p, nil, nil, "a\xF1\x80", open)
	asks(t, p, nil, nil, "a\xF1\x80\x80\x80", 0)
	asks(t, p, nil, nil, "a\xF1\x81", open)
	asks(t, p, nil, nil, "a\xF1a", 0)
	asks(t, p, nil, nil, "a\xF2", -1)
}

// Rows of strays of which each may be any, of the rules that are many: what is looked at does not double with each.
func TestManyStrays(t *testing.T) { // R1
	leads, any := of(0x1100C2, 0x1100F4), of(firstRaw, lastRaw)
	var p api.Pass
	for n := range 32 {
		r := api.Rule{Key: append(row(a), slices.Repeat(row(leads), 7)...), Post: append(slices.Repeat(row(leads), 6), of(0x1100E1, 0x1100E1), of(firstRaw, 0x1100BF))}
		if n%2 == 0 {
			r.Post[6] = of(0x1100C3, 0x1100C3)
			r.Post[7] = of(firstRaw, 0x1100BF)
		}
		p.Rules = append(p.Rules, r)
	}
	asks(t, p, nil, nil, "a", open)
	for n := range p.Rules {
		p.Rules[n].Post[6] = of(0x1100C3, 0x1100C3)
	}
	asks(t, p, nil, nil, "a", -1)
	p.Rules[31].Post[6] = any
	asks(t, p, nil, nil, "a", open)
}

func TestNilAndEmptyAreTheSame(t *testing.T) { // R3
	for _, text := range []string{"", "a > b ; c > ", "ab > | bb", "^ { a } $ > x", "a } b > x ; a > @1"} {
		p := read(t, text)
		q := api.Pass{Rules: append([]api.Rule{}, p.Rules...)}
		for i, r := range q.Rules {
			r.Ante, r.Post = append([]api.Set{}, r.Ante...), append([]api.Set{}, r.Post...)
			r.Result = append([]api.Piece{}, r.Result...)
			for k := range r.Result {
				r.Result[k].To = api.Set{}
			}
			q.Rules[i] = r
		}
		for _, known := range []string{"", "a", "ab", "c\xE2", "\xE2"} {
			n, is := need.Decide(p, nil, nil, known)
			if !is {
				n = open
			}
			asks(t, q, []int{}, []int{}, known, n)
			x, _ := need.Doubt(p, nil, nil, known)
			if y, _ := need.Doubt(q, []int{}, []int{}, known); x != y {
				t.Errorf("%s, %q: %q, and %q", text, known, x, y)
			}
		}
	}
}

// roomy is a copy of a list with spare room behind it that has something in it.
func roomy[T any](l []T, spare T) []T {
	return append(slices.Clone(l), spare, spare, spare)[:len(l)]
}

func roomySets(l []api.Set) []api.Set {
	out := roomy(l, of(-7, -8))
	for i, s := range out {
		out[i] = roomy(s, api.Range{Lo: -7, Hi: -8})
	}
	return out
}

func roomyPass(p api.Pass) api.Pass {
	p.Rules = roomy(p.Rules, api.Rule{Cursor: -7})
	for i, r := range p.Rules {
		r.Ante, r.Key, r.Post, r.Result = roomySets(r.Ante), roomySets(r.Key), roomySets(r.Post), roomy(r.Result, unit(-7))
		for k, x := range r.Result {
			r.Result[k].To = roomy(x.To, api.Range{Lo: -7, Hi: -8})
		}
		p.Rules[i] = r
	}
	return p
}

// seen tells all that stands in the lists of a pass, the spare room too.
func seen(p api.Pass) string {
	var b strings.Builder
	for _, r := range p.Rules[:cap(p.Rules)] {
		fmt.Fprint(&b, r)
		for _, l := range [][]api.Set{r.Ante, r.Key, r.Post} {
			for _, s := range l[:cap(l)] {
				fmt.Fprint(&b, s[:cap(s)])
			}
		}
		for _, x := range r.Result[:cap(r.Result)] {
			fmt.Fprint(&b, x, x.To[:cap(x.To)])
		}
	}
	return b.String()
}

func TestWhatIsHandedInStays(t *testing.T) { // R4
	m := made(311)
	for n := range 2000 {
		p := m.pass(5)
		if n%9 == 0 && len(p.Rules) > 0 {
			p.Rules[0].Cursor = 99
		}
		done, back, known := m.place(p)
		p, done, back = roomyPass(p), roomy(done, -7), roomy(back, 'b')
		before, ahead, behind := seen(p), slices.Clone(done[:cap(done)]), slices.Clone(back[:cap(back)])
		rule, is := need.Decide(p, done, back, known)
		s, doubt := need.Doubt(p, done, back, known)
		if seen(p) != before || !slices.Equal(done[:cap(done)], ahead) || !slices.Equal(back[:cap(back)], behind) {
			t.Fatalf("what was handed in has changed: %s, %v, %v", brief(p), done, back)
		}
		copied := strings.Clone(s)
		// Other calls, and other numbers where these stood, are seen nowhere.
		q := roomyPass(p)
		clear(done[:cap(done)])
		clear(back[:cap(back)])
		need.Decide(m.pass(3), done, back, m.text(3))
		need.Doubt(m.pass(3), done, back, m.text(3))
		if x, y := need.Decide(q, ahead[:len(done)], behind[:len(back)], known); x != rule || y != is || s != copied {
			t.Errorf("%s: %d %v, then %d %v", brief(q), rule, is, x, y)
		}
		if x, y := need.Doubt(q, ahead[:len(done)], behind[:len(back)], known); x != s || y != doubt {
			t.Errorf("%s: %q %v, then %q %v", brief(q), s, doubt, x, y)
		}
	}
}

func TestSideBySide(t *testing.T) { // R5
	m := made(312)
	p := m.long(12)
	type ask struct {
		done, back []int
		known      string
	}
	var asked []ask
	var want []string
	tell := func(x ask) string {
		n, is := need.Decide(p, x.done, x.back, x.known)
		s, doubt := need.Doubt(p, x.done, x.back, x.known)
		return fmt.Sprintf("%d %v %q %v", n, is, s, doubt)
	}
	for range 60 {
		done, back, known := m.place(p)
		asked = append(asked, ask{done, back, known})
		want = append(want, tell(asked[len(asked)-1]))
	}
	var all sync.WaitGroup
	for range 8 {
		all.Go(func() {
			for i, x := range asked {
				if got := tell(x); got != want[i] {
					t.Errorf("%v: %s; want %s", x, got, want[i])
				}
			}
		})
	}
	all.Wait()
}
