package match_test

import (
	"math/rand"
	"slices"
	"testing"

	"respell/api"
	"respell/match"
	"respell/rule"
)

// What follows of the chapter's promises: P9.3, P9.4, P9.5.

// How many units of done's end, and of left's beginning, a rule sees.
const (
	seesAhead  = api.MaxNear + 1
	seesBehind = api.MaxKey + api.MaxNear + 1
)

// unseen gives places that differ from one in what no rule sees.
func unseen(m maker, done, left []int, each func(done, left []int)) {
	far, near := max(len(done)-seesAhead, 0), min(len(left), seesBehind)
	each(done[far:], left)
	each(done, left[:near])
	each(done[far:], left[:near])
	// Where there is nothing farther, there must not be anything there then.
	if far > 0 {
		each(slices.Concat(m.numbers(1+m.Intn(20)), done[far:]), left)
		each(slices.Concat(m.numbers(1+m.Intn(20)), done[far:]), left[:near])
		for _, u := range noUnits {
			each(slices.Concat([]int{u}, done[far:]), left)
		}
	}
	if near < len(left) {
		each(done, slices.Concat(left[:near], m.numbers(1+m.Intn(20))))
		each(done[far:], slices.Concat(left[:near], m.numbers(1+m.Intn(20))))
		for _, u := range noUnits {
			each(done, slices.Concat(left[:near], []int{u}))
		}
	}
	if len(done) >= seesAhead {
		each(slices.Concat(m.numbers(m.Intn(40)), done[far:]), left)
	}
	if len(left) >= seesBehind {
		each(done, slices.Concat(left[:near], m.numbers(m.Intn(40))))
	}
}

// longer is a place of a pass with so much on both sides that something is not seen.
func longer(m maker, p api.Pass) (done, left []int) {
	done, left = m.place(p)
	if m.Intn(3) > 0 {
		done = slices.Concat(m.numbers(seesAhead+m.Intn(5)), done)
	}
	if m.Intn(3) > 0 {
		left = slices.Concat(left, m.numbers(seesBehind+m.Intn(5)))
	}
	return done, left
}

func TestNear(t *testing.T) { // P9.3
	m := maker{rand.New(rand.NewSource(94)), 20}
	found := 0
	for range 1500 {
		p := m.pass(8)
		done, left := longer(m, p)
		want := match.Find(p, done, left)
		if want >= 0 {
			found++
		}
		each := make([]bool, len(p.Rules))
		for i, r := range p.Rules {
			each[i] = match.Fits(r, done, left)
		}
		unseen(m, done, left, func(done, left []int) {
			t.Helper()
			finds(t, p, done, left, want)
			for i, r := range p.Rules {
				fits(t, r, done, left, each[i])
			}
		})
	}
	if found < 400 {
		t.Errorf("only %d found", found)
	}
}

func TestNearAtTheGreatest(t *testing.T) { // P9.3
	m := maker{Rand: rand.New(rand.NewSource(95))}
	yes := 0
	for ends := range 4 {
		r := api.Rule{Begin: ends&1 > 0, End: ends&2 > 0, Ante: letters("ijklmnop"), Key: letters("abcdefgh"), Post: letters("qrstuvwx")}
		p := api.Pass{Rules: []api.Rule{{Key: row(all)}, r, {Key: r.Key[:7]}}}
		for ahead := range 4 {
			for behind := range 4 {
				done := slices.Concat(m.numbers(ahead), []int{'i', 'j', 'k', 'l', 'm', 'n', 'o', 'p'})
				left := slices.Concat([]int{'a', 'b', 'c', 'd', 'e', 'f', 'g', 'h', 'q', 'r', 's', 't', 'u', 'v', 'w', 'x'}, m.numbers(behind))
				want := (!r.Begin || ahead == 0) && (!r.End || behind == 0)
				next := 2
				if want {
					next = 1
					yes++
				}
				fits(t, r, done, left, want)
				finds(t, p, done, left, next)
				unseen(m, done, left, func(done, left []int) {
					t.Helper()
					fits(t, r, done, left, want)
					finds(t, p, done, left, next)
				})
			}
		}
	}
	if yes != 16+4+4+1 {
		t.Errorf("%d fit", yes)
	}
}

func TestNoNearerThanThat(t *testing.T) { // P9.3: the farthest units that a rule may see, it sees
	done, left := slices.Repeat([]int{'a'}, seesAhead), slices.Repeat([]int{'a'}, seesBehind)
	r := api.Rule{Ante: slices.Repeat(row(a), 8), Key: slices.Repeat(row(a), 8), Post: slices.Repeat(row(a), 8)}
	fits(t, r, done[1:], left[1:], true)
	fits(t, r, done[2:], left, false)
	fits(t, r, done, left[2:], false)
	begin, end := r, r
	begin.Begin, end.End = true, true
	fits(t, begin, done[1:], left, true)
	fits(t, begin, done, left, false)
	fits(t, end, done, left[1:], true)
	fits(t, end, done, left, false)
}

func TestBest(t *testing.T) { // P9.4
	m := maker{rand.New(rand.NewSource(96)), 60}
	rivals, none := 0, 0
	for range 6000 {
		p := m.pass(12)
		done, left := m.place(p)
		n := match.Find(p, done, left)
		if _, e := rule.All(p); e != api.OK {
			finds(t, p, done, left, -1)
			continue
		}
		if n < -1 || n >= len(p.Rules) {
			t.Fatalf("%d of %d rules", n, len(p.Rules))
		}
		if n >= 0 {
			fits(t, p.Rules[n], done, left, true)
		} else {
			none++
		}
		for i, r := range p.Rules {
			if i == n || !match.Fits(r, done, left) {
				continue
			}
			rivals++
			if n < 0 || len(r.Key) > len(p.Rules[n].Key) || i < n && len(r.Key) == len(p.Rules[n].Key) {
				t.Errorf("%v between %v and %v: %d, but %d fits", p, done, left, n, i)
			}
		}
	}
	if rivals < 2000 || none < 500 {
		t.Errorf("%d rivals, %d times none: the passes are too tame or too wild", rivals, none)
	}
}

func TestOneMore(t *testing.T) { // P9.5
	m := maker{rand.New(rand.NewSource(97)), 0}
	newer, older, alike := 0, 0, 0
	for range 8000 {
		p := m.pass(6)
		more := api.Pass{Rules: append(slices.Clone(p.Rules), m.rule())}
		last := more.Rules[len(p.Rules)]
		done, left := m.place(more)
		fit := match.Fits(last, done, left)
		longest := 0
		for _, r := range p.Rules {
			if match.Fits(r, done, left) {
				longest = max(longest, len(r.Key))
			}
		}
		want := match.Find(p, done, left)
		switch {
		case fit && len(last.Key) > longest:
			want = len(p.Rules)
			newer++
		case fit && len(last.Key) == longest:
			alike++
		default:
			older++
		}
		finds(t, more, done, left, want)
	}
	if newer < 1000 || older < 1000 || alike < 200 {
		t.Errorf("%d, %d, %d: the passes are too tame or too wild", newer, older, alike)
	}
}

func TestOneMoreThatMayNotBe(t *testing.T) { // P9.2, P9.5
	full := slices.Repeat([]api.Rule{{Key: row(a)}}, 256)
	finds(t, api.Pass{Rules: full[:255]}, nil, []int{'a'}, 0)
	finds(t, api.Pass{Rules: full}, nil, []int{'a'}, 0)
	finds(t, api.Pass{Rules: append(full, full[0])}, nil, []int{'a'}, -1)
	for _, r := range refused {
		finds(t, api.Pass{Rules: []api.Rule{full[0], r}}, nil, []int{'a'}, -1)
	}
}

func TestTheOrderOfKeysThatAreUnlikeIsNotSeen(t *testing.T) { // P9.4
	m := maker{rand.New(rand.NewSource(98)), 0}
	found := 0
	for range 2000 {
		var p api.Pass
		for n := range 8 {
			r := api.Rule{Begin: m.Intn(5) == 0, End: m.Intn(5) == 0, Ante: m.row(m.Intn(2)), Key: m.row(n + 1), Post: m.row(m.Intn(2))}
			p.Rules = append(p.Rules, r)
		}
		done, left := m.place(p)
		n := match.Find(p, done, left)
		if n >= 0 {
			found++
		}
		order := m.Perm(8)
		q := api.Pass{}
		for _, i := range order {
			q.Rules = append(q.Rules, p.Rules[i])
		}
		finds(t, q, done, left, slices.Index(order, n))
	}
	if found < 500 {
		t.Errorf("only %d found", found)
	}
}
