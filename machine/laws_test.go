package machine_test

import (
	"math/rand"
	"slices"
	"testing"

	"respell/api"
	"respell/machine"
	"respell/match"
	"respell/utf"
)

// What follows of the chapter's promises: P12.5, P12.6.

func TestTheLongestOfThoseThatFit(t *testing.T) { // P12.5
	m := maker{rand.New(rand.NewSource(131)), 3, 0}
	rivals, hidden, without := 0, 0, 0
	for range 8000 {
		p := m.fine(12)
		done, left := m.place(p)
		n := made(t, p).Find(done, left)
		if n < -1 || n >= len(p.Rules) {
			t.Fatalf("%d of %d rules", n, len(p.Rules))
		}
		if n < 0 {
			without++
		} else if !match.Fits(p.Rules[n], done, left) {
			t.Errorf("%v between %v and %v: %d, which does not fit", p, done, left, n)
		}
		for i, r := range p.Rules {
			longer := n < 0 || len(r.Key) > len(p.Rules[n].Key)
			switch {
			case i == n:
			case match.Fits(r, done, left):
				rivals++
				if longer || i < n && len(r.Key) == len(p.Rules[n].Key) {
					t.Errorf("%v between %v and %v: %d, but %d fits", p, done, left, n, i)
				}
			case n >= 0 && longer && match.Fits(api.Rule{Key: r.Key}, nil, left):
				hidden++ // its key stands there, but its contexts do not
			}
		}
	}
	if rivals < 600 || hidden < 200 || without < 1000 {
		t.Errorf("%d rivals, %d longer ones that do not fit, %d times none: the passes are too tame or too wild", rivals, hidden, without)
	}
}

// How many units of done's end, and of left's beginning, are seen.
const (
	seesAhead  = api.MaxNear
	seesBehind = api.MaxKey + api.MaxNear
)

// unseen gives places that are the same in what is seen: the nearest units on both sides, and whether there are more.
func unseen(m maker, done, left []int, each func(done, left []int)) {
	far, near := max(len(done)-seesAhead, 0), min(len(left), seesBehind)
	aheads, behinds := [][]int{nil}, [][]int{nil}
	if far > 0 {
		aheads = [][]int{done[:far], done[far-1 : far], m.numbers(1), m.numbers(1 + m.Intn(20)), slices.Repeat([]int{-1}, 3), {noUnits[0]}, {noUnits[len(noUnits)-1]}}
	}
	if near < len(left) {
		behinds = [][]int{left[near:], left[near : near+1], m.numbers(1), m.numbers(1 + m.Intn(20)), slices.Repeat([]int{0xD800}, 3), {noUnits[0]}, {noUnits[len(noUnits)-1]}}
	}
	for _, x := range aheads {
		for _, y := range behinds {
			each(slices.Concat(x, done[far:]), slices.Concat(left[:near], y))
		}
	}
}

func TestNear(t *testing.T) { // P12.6
	m := maker{rand.New(rand.NewSource(132)), 3, 0}
	found, both := 0, 0
	for range 1500 {
		x := about(t, m.fine(8))
		done, left := m.place(x.pass)
		if m.Intn(3) > 0 {
			done, left = slices.Concat(m.numbers(m.Intn(16)), done), slices.Concat(left, m.numbers(m.Intn(30)))
		}
		want := x.Find(done, left)
		if want >= 0 {
			found++
		}
		if len(done) > seesAhead && len(left) > seesBehind {
			both++
		}
		unseen(m, done, left, func(done, left []int) {
			t.Helper()
			x.finds(t, done, left, want)
		})
	}
	if found < 300 || both < 300 {
		t.Errorf("only %d found, %d with more on both sides", found, both)
	}
}

func TestNearAtTheGreatest(t *testing.T) { // P12.6
	m := maker{Rand: rand.New(rand.NewSource(133))}
	yes := 0
	for ends := range 4 {
		r := api.Rule{Begin: ends&1 > 0, End: ends&2 > 0, Ante: letters("ijklmnop"), Key: letters("abcdefgh"), Post: letters("qrstuvwx")}
		x := about(t, rules(api.Rule{Key: row(all)}, r, api.Rule{Key: r.Key[:7]}))
		for ahead := range 4 {
			for behind := range 4 {
				done := slices.Concat(m.numbers(ahead), utf.Cut("ijklmnop"))
				left := slices.Concat(utf.Cut("abcdefghqrstuvwx"), m.numbers(behind))
				want := 2
				if (!r.Begin || ahead == 0) && (!r.End || behind == 0) {
					want = 1
					yes++
				}
				x.finds(t, done, left, want)
				unseen(m, done, left, func(done, left []int) {
					t.Helper()
					x.finds(t, done, left, want)
				})
			}
		}
	}
	if yes != 16+4+4+1 {
		t.Errorf("%d fit", yes)
	}
}

func TestNoNearerThanThat(t *testing.T) { // P12.6: the farthest units that may be seen are
	done, left := slices.Repeat([]int{'a'}, seesAhead+1), slices.Repeat([]int{'a'}, seesBehind+1)
	r := api.Rule{Ante: slices.Repeat(row(a), 8), Key: slices.Repeat(row(a), 8), Post: slices.Repeat(row(a), 8)}
	x := about(t, rules(r))
	x.finds(t, done[1:], left[1:], 0)
	x.finds(t, done[2:], left, -1)
	x.finds(t, done, left[2:], -1)
	farthest := slices.Clone(done[1:])
	farthest[0] = 'b'
	x.finds(t, farthest, left, -1)
	x.finds(t, slices.Concat([]int{'a'}, farthest), left, -1)
	farthest = slices.Clone(left)
	farthest[seesBehind-1] = 'b'
	x.finds(t, done, farthest, -1)
	farthest[seesBehind-1], farthest[seesBehind] = 'a', 'b'
	x.finds(t, done, farthest, 0)
	// Whether there are more is seen at just that many.
	begin, end := r, r
	begin.Begin, end.End = true, true
	x = about(t, rules(begin))
	x.finds(t, done[1:], left, 0)
	x.finds(t, done, left, -1)
	x = about(t, rules(end))
	x.finds(t, done, left[1:], 0)
	x.finds(t, done, left, -1)
	for n := range 30 {
		for _, sets := range []int{0, 1, 7, 8} {
			want := -1
			if n == sets {
				want = 0
			}
			row := slices.Repeat(row(all), sets)
			about(t, rules(api.Rule{Begin: true, Ante: row, Key: letters("a")})).finds(t, slices.Repeat([]int{'a'}, n), left, want)
			about(t, rules(api.Rule{End: true, Post: row, Key: letters("a")})).finds(t, done, slices.Repeat([]int{'a'}, n+1), want)
		}
	}
}

func TestFarAway(t *testing.T) { // P12.6: rows of any length
	x := about(t, read(t, "x { ab > 0 ; ^ x { a > 1 ; a } $ > 2 ; a > 3"))
	much := slices.Repeat([]int{'x', 'y', -1}, 1<<16)
	x.finds(t, append(slices.Clone(much), 'x'), append([]int{'a', 'b'}, much...), 0)
	x.finds(t, append(slices.Clone(much), 'x'), append([]int{'a'}, much...), 3)
	x.finds(t, append(slices.Clone(much), 'x'), []int{'a'}, 2)
	x.finds(t, much, append([]int{'a', 'b'}, much...), 3)
	x.finds(t, []int{'x'}, append([]int{'a'}, much...), 1)
}

func TestOneMeaning(t *testing.T) { // P12.5: whichever way the rules are written, and however often they are made ready
	m := maker{rand.New(rand.NewSource(134)), 3, 0}
	for range 300 {
		p := m.fine(8)
		twice := api.Pass{Rules: append(slices.Clone(p.Rules), p.Rules...)}
		x, y := made(t, p), []*machine.Machine{made(t, p), made(t, roomyPass(p)), made(t, twice)}
		for range 10 {
			done, left := m.place(p)
			want := x.Find(done, left)
			for i, z := range y {
				// Rules that stand there once more are never the first ones.
				if got := z.Find(done, left); got != want {
					t.Fatalf("%v between %v and %v: %d, and %d of another one, %d", p, done, left, want, got, i)
				}
			}
		}
	}
}
