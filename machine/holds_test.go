package machine_test

import (
	"fmt"
	"math"
	"math/rand"
	"slices"
	"strings"
	"sync"
	"testing"

	"respell/api"
	"respell/machine"
	"respell/utf"
	"respell/weigh"
)

// What holds everywhere: R1, R3, R4, R5, R6; and P12.4.

func TestEveryCallEnds(t *testing.T) { // R1
	numbers := []int{math.MinInt, math.MinInt + 1, -1, 0, 1, 2, 'a', maxRune, firstRaw, math.MaxInt - 1, math.MaxInt}
	for _, x := range numbers {
		for _, y := range numbers {
			for kind := -1; kind <= 4; kind++ {
				for _, s := range []api.Set{abc, of(x, y), of(x, x, y, y), of('a', 'c', x, y), nil} {
					r := api.Rule{Ante: row(abc), Key: row(abc, s), Post: row(s), Result: pieces(api.Piece{Kind: kind, Unit: x, Key: y, To: s}), Cursor: y}
					p := rules(r, api.Rule{Key: row(abc), Result: pieces(api.Piece{Kind: kind, Key: x, To: abc}), Cursor: x})
					if _, e := weigh.Check(p); e != api.OK {
						refuses(t, p, e)
						continue
					}
					m := about(t, p)
					same(t, p, m.Machine, "abcabc\xE2")
					for _, done := range [][]int{nil, {x}, {x, y}, {'a', x}} {
						for _, left := range [][]int{nil, {x}, {'a', y}, {'a', 'a', x, y}} {
							if got := m.Find(done, left); got < -1 || got > 1 {
								t.Errorf("%d", got)
							}
						}
					}
				}
			}
		}
	}
	for _, n := range []int{257, 100000} {
		long := api.Rule{Ante: slices.Repeat(row(a), n), Key: slices.Repeat(row(a), n), Post: slices.Repeat(row(a), n)}
		refuses(t, rules(long), api.ErrRuleKey)
		refuses(t, rules(slices.Repeat([]api.Rule{long}, n)...), api.ErrRuleMany)
	}
}

func TestManyWays(t *testing.T) { // R1: at each place a unit leads as many ways as there may be
	var p api.Pass
	for n := range 256 {
		own := of(0, 'z', 0x1000+2*n, 0x1000+2*n)
		p.Rules = append(p.Rules, api.Rule{Ante: slices.Repeat(row(own), 8), Key: slices.Repeat(row(own), 8), Post: slices.Repeat(row(own), 8), Result: pieces(unit(0xE000 + n)), Cursor: 1})
	}
	m := made(t, p)
	done, left := slices.Repeat([]int{'a'}, 8), slices.Repeat([]int{'a'}, 16)
	if got := m.Find(done, left); got != 0 {
		t.Errorf("%d", got)
	}
	for _, n := range []int{0, 1, 100, 255} {
		for i := range left {
			left[i] = 0x1000 + 2*n
			if got := m.Find(done, left); got != n {
				t.Errorf("%d, not %d", got, n)
			}
			left[i] = 'a'
		}
		for i := range done {
			done[i] = 0x1000 + 2*n
			if got := m.Find(done, left); got != n {
				t.Errorf("%d, not %d", got, n)
			}
			done[i] = 'a'
		}
	}
	text := strings.Repeat("a", 40) + "\u1002" + strings.Repeat("a", 40)
	same(t, p, m, text)
}

func TestManyUnlikeUnits(t *testing.T) { // R1
	var text strings.Builder
	for u := 0x1000; text.Len() <= 16384-3; u++ {
		text.WriteRune(rune(u))
	}
	m := about(t, rules(slices.Repeat([]api.Rule{{Key: row(all, all), Post: row(a), Result: pieces(again(1), again(0)), Cursor: 2}}, 256)...))
	m.runs(t, text.String(), text.String())
	m.runs(t, text.String()[:16380]+"a", text.String()[:16374]+text.String()[16377:16380]+text.String()[16374:16377]+"a")
}

func TestNilAndEmptyAreTheSame(t *testing.T) { // R3
	for _, text := range []string{"", "a > b ; c > ", "a > | bb", "^ { a } $ > x"} {
		p := read(t, text)
		q := api.Pass{Rules: append([]api.Rule{}, p.Rules...)}
		for i, r := range q.Rules {
			r.Ante, r.Post = append([]api.Set{}, r.Ante...), append([]api.Set{}, r.Post...)
			r.Result = append([]api.Piece{}, r.Result...)
			for k := range r.Result {
				r.Result[k].To = api.Set{}
			}
			q.Rules[i] = r
		}
		x, y := made(t, p), made(t, q)
		for _, over := range []string{"", "a", "abcac\xE2"} {
			if l, k := same(t, p, x, over), same(t, q, y, over); !slices.Equal(l, k) {
				t.Errorf("%s over %q: %s, and %s", text, over, written(l), written(k))
			}
			for _, none := range [][]int{nil, {}} {
				if n := x.Find(none, utf.Cut(over)); n != y.Find(nil, utf.Cut(over)) {
					t.Errorf("%s over %q: %d", text, over, n)
				}
			}
		}
	}
}

// roomy is a copy of a list with spare room behind it that has something in it.
func roomy[T any](l []T, spare T) []T {
	return append(slices.Clone(l), spare, spare, spare)[:len(l)]
}

func roomySets(l []api.Set) []api.Set {
	out := roomy(l, of(-7, -8))
	for i, s := range out {
		out[i] = roomy(s, api.Range{Lo: -7, Hi: -8})
	}
	return out
}

func roomyPass(p api.Pass) api.Pass {
	p.Rules = roomy(p.Rules, api.Rule{Cursor: -7})
	for i, r := range p.Rules {
		r.Ante, r.Key, r.Post, r.Result = roomySets(r.Ante), roomySets(r.Key), roomySets(r.Post), roomy(r.Result, unit(-7))
		for k, x := range r.Result {
			r.Result[k].To = roomy(x.To, api.Range{Lo: -7, Hi: -8})
		}
		p.Rules[i] = r
	}
	return p
}

// seen tells all that stands in the lists of a pass, the spare room too.
func seen(p api.Pass) string {
	var b strings.Builder
	for _, r := range p.Rules[:cap(p.Rules)] {
		fmt.Fprint(&b, r)
		for _, l := range [][]api.Set{r.Ante, r.Key, r.Post} {
			for _, s := range l[:cap(l)] {
				fmt.Fprint(&b, s[:cap(s)])
			}
		}
		for _, x := range r.Result[:cap(r.Result)] {
			fmt.Fprint(&b, x, x.To[:cap(x.To)])
		}
	}
	return b.String()
}

func TestWhatIsHandedInStays(t *testing.T) { // R4
	for _, wrong := range []int{0, 20} {
		m := maker{rand.New(rand.NewSource(135)), 10, wrong}
		for range 300 {
			p := m.pass(8)
			if wrong == 0 {
				p = m.fine(8)
			}
			p = roomyPass(p)
			before := seen(p)
			x, e := machine.New(p)
			if e == api.OK {
				text := m.text(20)
				x.Run(text)
				for s := range stepsOf(t, x, text) {
					if s.Done > 9 {
						break
					}
				}
			}
			if seen(p) != before {
				t.Fatalf("what was handed in has changed: %v", p)
			}
		}
	}
}

func TestFindChangesNothing(t *testing.T) { // R4
	m := maker{rand.New(rand.NewSource(136)), 4, 0}
	for range 500 {
		p := m.fine(8)
		x := made(t, p)
		done, left := m.place(p)
		done, left = roomy(done, -7), roomy(left, -7)
		before := fmt.Sprint(done[:cap(done)], left[:cap(left)])
		first := x.Find(done, left)
		if fmt.Sprint(done[:cap(done)], left[:cap(left)]) != before {
			t.Fatalf("what was handed in has changed: %v, %v", done, left)
		}
		// Nor is it kept: what is written there is not seen by a later call of another place.
		other, rest := m.place(p)
		want := made(t, p).Find(other, rest)
		for i := range done {
			done[i] = 'q'
		}
		for i := range left {
			left[i] = 'q'
		}
		if got := x.Find(other, rest); got != want {
			t.Fatalf("%d, not %d", got, want)
		}
		done, left = slices.Clone(other), slices.Clone(rest)
		if got := x.Find(done, left); got != want {
			t.Fatalf("%d, not %d, and %d ahead", got, want, first)
		}
	}
	// Done and left may be parts of one list.
	x := about(t, read(t, "xa { ab > 0 ; ab > 1"))
	row := utf.Cut("xaabab")
	x.finds(t, row[:2], row[2:], 0)
	x.finds(t, row[:4], row[4:], 1)
	x.finds(t, row[1:3:3], row[2:4], 1)
	x.finds(t, row[:2], row[2:4:4], 0)
}

func TestOneAnswer(t *testing.T) { // R5, P12.4: earlier calls are not seen
	good := about(t, read(t, "a > | bb ; b > | cc ; c > d ; x { é > "))
	const steps = "0: 0 3 1 0 2; 1: 0 4 1 0 2; 2: 0 5 1 1 0; 2: 1 4 1 1 0; 1: 2 3 1 0 2; 2: 2 4 1 1 0; 2: 3 3 1 1 0; -1: 4 2 1 1 0; 3: 5 1 1 0 0"
	seq := stepsOf(t, good.Machine, "axé")
	for _, text := range []string{"", "a > b ; é > x", "^ { . > a", "c > | dddd ; x > | c"} {
		other := made(t, read(t, text))
		for _, over := range []string{"", "axé", "cab\xE2", strings.Repeat("a", 16385), strings.Repeat("a", 3000)} {
			for _, m := range []*machine.Machine{other, good.Machine} {
				m.Run(over)
				m.Find(utf.Cut(over), utf.Cut(over))
				if s, e := m.Steps(over); e == api.OK {
					for range s {
						break
					}
				}
			}
			machine.New(read(t, "a > | a"))
			good.runs(t, "axé", "ddddx")
			good.finds(t, []int{'x'}, []int{'é'}, 3)
			good.finds(t, nil, []int{'é'}, -1)
			if got := written(slices.Collect(seq)); got != steps {
				t.Errorf("%s", got)
			}
		}
	}
}

func TestManyAskOneMachine(t *testing.T) { // P12.4
	m, text, want := lot(t)
	result, _ := m.Run(text)
	seq := stepsOf(t, m.Machine, text)
	var wait sync.WaitGroup
	for n := range 16 {
		wait.Go(func() {
			for i := range 40 {
				if got, e := m.Run(text); got != result || e != api.OK {
					t.Errorf("%q, %d", got, e)
				}
				if got, e := m.Run(strings.Repeat("a", n)); got != strings.Repeat("d", 4*n) || e != api.OK {
					t.Errorf("%q, %d", got, e)
				}
				long(t, m.Machine, strings.Repeat("a", 16385+n))
				if got := slices.Collect(seq); !slices.Equal(got, want) {
					t.Errorf("%s", written(got))
				}
				if got := slices.Collect(stepsOf(t, m.Machine, text)); !slices.Equal(got, want) {
					t.Errorf("%s", written(got))
				}
				left := 0
				for s := range seq {
					if left++; left > n+i%3 {
						break
					}
					if s != want[left-1] {
						t.Errorf("%v", s)
					}
				}
				m.finds(t, []int{'d'}, []int{firstRaw}, 4)
				m.finds(t, []int{'d', 'z'}, []int{firstRaw}, -1)
				m.finds(t, nil, utf.Cut("xya"), 3)
			}
		})
	}
	wait.Wait()
}

func TestManyMachinesSideBySide(t *testing.T) { // R5
	m := maker{rand.New(rand.NewSource(137)), 4, 0}
	var wait sync.WaitGroup
	for range 16 {
		p, text := m.fine(20), m.text(60)
		done, left := m.place(p)
		one := made(t, p)
		want, find := written(same(t, p, one, text)), one.Find(done, left)
		for range 4 {
			wait.Go(func() {
				for range 10 {
					x, e := machine.New(p)
					if e != api.OK {
						t.Errorf("%d", e)
						return
					}
					for _, y := range []*machine.Machine{x, one} {
						if seq, _ := y.Steps(text); written(slices.Collect(seq)) != want || y.Find(done, left) != find {
							t.Errorf("%v over %q: another answer", p, text)
						}
					}
				}
			})
		}
	}
	wait.Wait()
}
