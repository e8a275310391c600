package pass_test

import (
	"fmt"
	"math"
	"math/rand"
	"slices"
	"strings"
	"sync"
	"testing"

	"respell/api"
	"respell/pass"
	"respell/weigh"
)

// What holds everywhere: R1, R3, R4, R5, R6.

func TestEveryCallEnds(t *testing.T) { // R1
	numbers := []int{math.MinInt, math.MinInt + 1, -1, 0, 1, 2, 'a', maxRune, firstRaw, math.MaxInt - 1, math.MaxInt}
	for _, x := range numbers {
		for _, y := range numbers {
			for kind := -1; kind <= 4; kind++ {
				for _, s := range []api.Set{abc, of(x, y), of(x, x, y, y), of('a', 'c', x, y), nil} {
					r := api.Rule{Ante: row(abc), Key: row(abc, s), Post: row(s), Result: pieces(api.Piece{Kind: kind, Unit: x, Key: y, To: s}), Cursor: y}
					p := api.Pass{Rules: []api.Rule{r, {Key: row(abc), Result: pieces(api.Piece{Kind: kind, Key: x, To: abc}), Cursor: x}}}
					if _, e := weigh.Check(p); e != api.OK {
						refuses(t, p, "abcabc\xE2", e)
						continue
					}
					steps, want := goesByWords(p, "abcabc\xE2")
					runs(t, p, "abcabc\xE2", want)
					if got := slices.Collect(stepsOf(t, p, "abcabc\xE2")); !slices.Equal(got, steps) {
						t.Errorf("%v: %s", p, written(got))
					}
				}
			}
		}
	}
	for _, n := range []int{257, 100000} {
		long := api.Rule{Ante: slices.Repeat(row(a), n), Key: slices.Repeat(row(a), n), Post: slices.Repeat(row(a), n)}
		refuses(t, api.Pass{Rules: []api.Rule{long}}, strings.Repeat("a", n), api.ErrRuleKey)
		refuses(t, api.Pass{Rules: slices.Repeat([]api.Rule{long}, n)}, strings.Repeat("a", n), api.ErrRuleMany)
	}
}

func TestTheGreatestPasses(t *testing.T) { // R1
	// 256 rules, as long as they may be, all sets with 512 ranges; the last unit that is asked for alone tells them apart.
	most := make(api.Set, 512)
	for i := range most {
		most[i] = api.Range{Lo: 3 * i, Hi: 3*i + 1}
	}
	var p api.Pass
	for n := range 256 {
		r := api.Rule{Ante: slices.Repeat(row(most), 8), Key: slices.Repeat(row(most), 8), Post: slices.Repeat(row(most), 8), Result: slices.Repeat(pieces(paired(7, most)), 16), Cursor: 16}
		r.Post[7] = slices.Delete(slices.Clone(most), 2*n, 2*n+2)
		p.Rules = append(p.Rules, r)
	}
	// 8 go over, 8 are taken by the second rule as U+0000 stands at the end of its post, and the others have no post.
	text := strings.Repeat("c", 23) + "\x00"
	runs(t, p, text, strings.Repeat("c", 8)+strings.Repeat("c", 16)+strings.Repeat("c", 7)+"\x00")
	if l := slices.Collect(stepsOf(t, p, text)); len(l) != 8+1+8 || l[8] != (api.Step{Rule: 1, Done: 8, Left: 16, Took: 8, Laid: 16}) {
		t.Errorf("%s", written(l))
	}
}

func TestManyUnlikeUnits(t *testing.T) { // R1
	var text strings.Builder
	for u := 0x1000; text.Len() <= 16384-3; u++ {
		text.WriteRune(rune(u))
	}
	p := api.Pass{Rules: slices.Repeat([]api.Rule{{Key: row(all, all), Post: row(a), Result: pieces(again(1), again(0)), Cursor: 2}}, 256)}
	runs(t, p, text.String(), text.String())
	runs(t, p, text.String()[:16380]+"a", text.String()[:16374]+text.String()[16377:16380]+text.String()[16374:16377]+"a")
}

func TestNilAndEmptyAreTheSame(t *testing.T) { // R3
	for _, rules := range []string{"", "a > b ; c > ", "a > | bb", "^ { a } $ > x"} {
		p := read(t, rules)
		q := api.Pass{Rules: append([]api.Rule{}, p.Rules...)}
		for i, r := range q.Rules {
			r.Ante, r.Post = append([]api.Set{}, r.Ante...), append([]api.Set{}, r.Post...)
			r.Result = append([]api.Piece{}, r.Result...)
			for k := range r.Result {
				r.Result[k].To = api.Set{}
			}
			q.Rules[i] = r
		}
		for _, text := range []string{"", "a", "abcac\xE2"} {
			want, _ := pass.Run(p, text)
			runs(t, q, text, want)
			if x, y := slices.Collect(stepsOf(t, p, text)), slices.Collect(stepsOf(t, q, text)); !slices.Equal(x, y) {
				t.Errorf("%s over %q: %s, and %s", rules, text, written(x), written(y))
			}
		}
	}
}

// roomy is a copy of a list with spare room behind it that has something in it.
func roomy[T any](l []T, spare T) []T {
	return append(slices.Clone(l), spare, spare, spare)[:len(l)]
}

func roomySets(l []api.Set) []api.Set {
	out := roomy(l, of(-7, -8))
	for i, s := range out {
		out[i] = roomy(s, api.Range{Lo: -7, Hi: -8})
	}
	return out
}

func roomyPass(p api.Pass) api.Pass {
	p.Rules = roomy(p.Rules, api.Rule{Cursor: -7})
	for i, r := range p.Rules {
		r.Ante, r.Key, r.Post, r.Result = roomySets(r.Ante), roomySets(r.Key), roomySets(r.Post), roomy(r.Result, unit(-7))
		for k, x := range r.Result {
			r.Result[k].To = roomy(x.To, api.Range{Lo: -7, Hi: -8})
		}
		p.Rules[i] = r
	}
	return p
}

// seen tells all that stands in the lists of a pass, the spare room too.
func seen(p api.Pass) string {
	var b strings.Builder
	for _, r := range p.Rules[:cap(p.Rules)] {
		fmt.Fprint(&b, r)
		for _, l := range [][]api.Set{r.Ante, r.Key, r.Post} {
			for _, s := range l[:cap(l)] {
				fmt.Fprint(&b, s[:cap(s)])
			}
		}
		for _, x := range r.Result[:cap(r.Result)] {
			fmt.Fprint(&b, x, x.To[:cap(x.To)])
		}
	}
	return b.String()
}

func TestWhatIsHandedInStays(t *testing.T) { // R4
	for _, wrong := range []int{0, 20} {
		m := maker{rand.New(rand.NewSource(4)), 10, wrong}
		for range 300 {
			p := m.pass(8)
			if wrong == 0 {
				p = m.fine(8)
			}
			p = roomyPass(p)
			before := seen(p)
			text := m.text(20)
			pass.Run(p, text)
			if seq, e := pass.Steps(p, text); e == api.OK {
				for s := range seq {
					if s.Done > 9 {
						break
					}
				}
				for range seq {
				}
			}
			if seen(p) != before {
				t.Fatalf("what was handed in has changed: %v", p)
			}
		}
	}
}

// spoilt are ways to change a pass in place, each in another list of it.
var spoilt = []func(p api.Pass){
	func(p api.Pass) { p.Rules[0] = api.Rule{} },
	func(p api.Pass) { clear(p.Rules) },
	func(p api.Pass) { p.Rules[1].Cursor = 99 },
	func(p api.Pass) { p.Rules[0].Begin, p.Rules[1].End = true, true },
	func(p api.Pass) { p.Rules[0].Ante[0] = nil },
	func(p api.Pass) { p.Rules[0].Ante[0][0] = api.Range{Lo: 'q', Hi: 'q'} },
	func(p api.Pass) { p.Rules[0].Key[0] = of('q', 'q') },
	func(p api.Pass) { p.Rules[0].Key[0][0] = api.Range{Lo: 'q', Hi: 'q'} },
	func(p api.Pass) { p.Rules[0].Key[1][0] = api.Range{Lo: 'q', Hi: 'q'} },
	func(p api.Pass) { p.Rules[0].Key[1][0] = api.Range{Lo: 9, Hi: -9} },
	func(p api.Pass) { p.Rules[0].Post[0] = nil },
	func(p api.Pass) { p.Rules[0].Post[0][0].Hi = -1 },
	func(p api.Pass) { p.Rules[0].Result[0] = api.Piece{} },
	func(p api.Pass) { p.Rules[0].Result[0].Unit = 'q' },
	func(p api.Pass) { p.Rules[0].Result[1].To[0] = api.Range{Lo: 'p', Hi: 'q'} },
	func(p api.Pass) { p.Rules[0].Result[1].To[0].Hi = 'z' },
	func(p api.Pass) { p.Rules[0].Result[1].To = nil },
	func(p api.Pass) { p.Rules[0].Result[2].Key = 7 },
}

func TestIteratorsTellWhatWasHandedIn(t *testing.T) { // R4, R6: as it was then
	const rules, text = "x { ab } y > x | @1:[c] @2 ; x { cb > x ; a > xx", "xabyaabyaby"
	want := "-1: 0 11 1 1 0; 0: 1 10 2 1 2; 1: 2 10 2 1 0; -1: 3 8 1 1 0; 2: 4 7 1 2 0; 0: 6 6 2 1 2; 1: 7 6 2 1 0; -1: 8 4 1 1 0; 2: 9 3 1 2 0; -1: 11 2 1 1 0; -1: 12 1 1 1 0"
	goesText(t, rules, text, want)
	for n, spoil := range spoilt {
		// Ahead of the first going, ahead of the second one, and amidst.
		p := read(t, rules)
		seq := stepsOf(t, p, text)
		spoil(p)
		if got := written(slices.Collect(seq)); got != want {
			t.Errorf("%d: %s", n, got)
		}
		p = read(t, rules)
		seq = stepsOf(t, p, text)
		for range seq {
		}
		spoil(p)
		if got := written(slices.Collect(seq)); got != want {
			t.Errorf("%d: gone through again: %s", n, got)
		}
		for at := range 11 {
			p = read(t, rules)
			var got []api.Step
			for s := range stepsOf(t, p, text) {
				got = append(got, s)
				if len(got) == at {
					spoil(p)
				}
			}
			if written(got) != want {
				t.Errorf("%d at %d: %s", n, at, written(got))
			}
		}
	}
}

func TestCallsLeaveNoTrace(t *testing.T) { // R5
	good := read(t, "a > | bb ; b > | cc ; c > d ; x { é > ")
	others := []api.Pass{{}, read(t, "a > | a"), read(t, "b > | @1"), read(t, "c > | dddd ; x > | c"), {Rules: make([]api.Rule, 257)}, read(t, "a > b ; é > x"), read(t, "^ { . > a")}
	const steps = "0: 0 3 1 0 2; 1: 0 4 1 0 2; 2: 0 5 1 1 0; 2: 1 4 1 1 0; 1: 2 3 1 0 2; 2: 2 4 1 1 0; 2: 3 3 1 1 0; -1: 4 2 1 1 0; 3: 5 1 1 0 0"
	seq := stepsOf(t, good, "axé")
	for range 2 {
		for _, p := range others {
			for _, text := range []string{"", "axé", "cab\xE2", strings.Repeat("a", 16385)} {
				first, e := pass.Run(p, text)
				if other, code := pass.Steps(p, text); code == api.OK {
					for range other {
						break
					}
				}
				runs(t, good, "axé", "ddddx")
				if again, code := pass.Run(p, text); again != first || code != e {
					t.Errorf("%v over %.60q: %q, %d and then %q, %d", p, text, first, e, again, code)
				}
				if got := written(slices.Collect(seq)); got != steps {
					t.Errorf("%s", got)
				}
				if got := written(slices.Collect(stepsOf(t, good, "axé"))); got != steps {
					t.Errorf("%s", got)
				}
			}
		}
	}
	// A pass that has changed is another one.
	p := read(t, "a > x ; b > y")
	runs(t, p, "ab", "xy")
	p.Rules[0].Result[0].Unit = 'z'
	runs(t, p, "ab", "zy")
	p.Rules[1].Key[0][0] = api.Range{Lo: 'a', Hi: 'a'}
	runs(t, p, "ab", "zb")
	p.Rules[1].Cursor = 7
	refuses(t, p, "ab", api.ErrRuleCursor)
	p.Rules = p.Rules[:1]
	runs(t, p, "ab", "zb")
}

func TestSideBySide(t *testing.T) { // R4, R5, R6
	p, text, want := lot(t)
	made, _ := pass.Run(p, text)
	bad := read(t, "a > | b ; b > | a")
	seq := stepsOf(t, p, text)
	var wait sync.WaitGroup
	for n := range 8 {
		wait.Go(func() {
			for i := range 50 {
				runs(t, p, text, made)
				refuses(t, bad, text, api.ErrWeighMost)
				if got := slices.Collect(seq); !slices.Equal(got, want) {
					t.Errorf("%s", written(got))
				}
				left := 0
				for s := range seq {
					if left++; left > n+i%3 {
						break
					}
					if s != want[left-1] {
						t.Errorf("%v", s)
					}
				}
			}
		})
	}
	wait.Wait()
}
