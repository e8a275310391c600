package weigh_test

import (
	"fmt"
	"math"
	"math/rand"
	"slices"
	"testing"

	"respell/api"
	"respell/rule"
	"respell/utf"
	"respell/weigh"
)

// What the chapter says, worked out anew: weights are of units, not of rules, and are lifted one by one.

func has(s api.Set, u int) bool {
	return slices.ContainsFunc(s, func(r api.Range) bool { return r.Lo <= u && u <= r.Hi })
}

func isUnit(u int) bool { return has(all, u) }

// samples is units such that whatever unit there is, one of these is in the same sets of a pass's keys and pairs.
func samples(p api.Pass) []int {
	l := []int{0, 0xE000, firstRaw}
	for _, r := range p.Rules {
		sets := slices.Clone(r.Key)
		for _, x := range r.Result {
			sets = append(sets, x.To)
			l = append(l, x.Unit, x.Unit+1)
		}
		for _, s := range sets {
			for _, x := range s {
				l = append(l, x.Lo, x.Hi+1)
			}
		}
	}
	l = slices.DeleteFunc(l, func(u int) bool { return !isUnit(u) })
	slices.Sort(l)
	return slices.Compact(l)
}

// needs is 1 + B - m of a rule, by weights of samples.
func needs(r api.Rule, w map[int]int) int {
	b, copied := 0, map[int]int{}
	for _, p := range r.Result[r.Cursor:] {
		switch p.Kind {
		case api.PUnit:
			b += w[p.Unit]
		case api.PCopy:
			copied[p.Key]++
		case api.PPair:
			most := 0
			for u, x := range w {
				if has(p.To, u) {
					most = max(most, x)
				}
			}
			b += most
		}
	}
	m := 0
	for place := 1; place < len(r.Key); place++ {
		if copied[place] == 0 {
			m++
		}
	}
	return 1 + b - m
}

// leastByWords is the least weights of samples; false: there are none that are small enough.
func leastByWords(l []api.Rule, units []int) (map[int]int, bool) {
	w := map[int]int{}
	for _, u := range units {
		w[u] = 1
	}
	for changed := true; changed; {
		changed = false
		for _, r := range l {
			n := needs(r, w)
			for _, u := range units {
				if has(r.Key[0], u) && w[u] < n {
					w[u], changed = w[u]+1, true
				}
				if w[u] > 64 {
					return nil, false
				}
			}
		}
	}
	return w, true
}

func backByWords(r api.Rule) bool {
	var seen []int
	for i, p := range r.Result {
		if p.Kind == api.PCopy && i >= r.Cursor {
			if p.Key == 0 || slices.Contains(seen, p.Key) {
				return true
			}
			seen = append(seen, p.Key)
		}
	}
	return false
}

func checkByWords(p api.Pass) (int, api.Errno) {
	if n, e := rule.All(p); e != api.OK {
		return n, e
	}
	if n := slices.IndexFunc(p.Rules, backByWords); n >= 0 {
		return n, api.ErrWeighBack
	}
	for n := range p.Rules {
		if _, is := leastByWords(p.Rules[:n+1], samples(p)); !is {
			return n, api.ErrWeighMost
		}
	}
	return 0, api.OK
}

// maker makes passes, any of them. Of what a rule puts back, one in ring is a unit that may stand at its key's beginning; of what may not be at all, it makes one of wrong; 0: none.
type maker struct {
	*rand.Rand
	ring, wrong int
}

func (m maker) chance(n int) bool { return n > 0 && m.Intn(n) == 0 }

func pick[T any](m maker, l ...T) T { return l[m.Intn(len(l))] }

// crowd is units of which some stand side by side, at all edges.
var crowd = []int{0, 1, 'a', 'b', 'c', 'd', 'x', 'y', 'z', 0x7FF, 0x800, 0xD7FE, 0xD7FF, 0xE000, 0xE001, 0xFFFD, maxRune - 1, maxRune, firstRaw, firstRaw + 1, 0x1100C3, lastRaw - 1, lastRaw}

// some is a set of n of some units.
func (m maker) some(n int, of []int) api.Set {
	l := slices.Clone(of)
	m.Shuffle(len(l), func(i, j int) { l[i], l[j] = l[j], l[i] })
	l = l[:min(n, len(l))]
	slices.Sort(l)
	var s api.Set
	for _, u := range l {
		if n := len(s); n > 0 && s[n-1].Hi == u-1 && u != 0xE000 {
			s[n-1].Hi = u
		} else {
			s = append(s, api.Range{Lo: u, Hi: u})
		}
	}
	return s
}

func (m maker) row(most int) []api.Set {
	var l []api.Set
	for range m.Intn(most + 1) {
		l = append(l, m.some(1+m.Intn(4), crowd))
	}
	return l
}

func size(s api.Set) int {
	n := 0
	for _, r := range s {
		n += r.Hi - r.Lo + 1
	}
	return n
}

func (m maker) piece(key []api.Set, above []int) api.Piece {
	if m.chance(m.ring) {
		above = crowd
	}
	k := m.Intn(len(key))
	switch n := size(key[k]); {
	case m.Intn(3) == 0 && n <= len(above):
		return paired(k, m.some(n, above))
	case m.Intn(2) == 0 && (k > 0 || m.chance(m.wrong)):
		return again(k)
	}
	return unit(pick(m, above...))
}

// rule is one that begins with units of a stretch of the crowd, and mostly puts back what is above these.
func (m maker) rule() api.Rule {
	from := m.Intn(len(crowd) - 5)
	r := api.Rule{Begin: m.Intn(9) == 0, End: m.Intn(9) == 0, Key: row(m.some(1+m.Intn(3), crowd[from:from+4])), Ante: m.row(m.Intn(2)), Post: m.row(m.Intn(2))}
	r.Key = append(r.Key, m.row(m.Intn(4))...)
	copied := map[int]int{}
	for range m.Intn(7) {
		p := m.piece(r.Key, crowd[from+4:])
		if p.Kind == api.PCopy {
			if copied[p.Key]++; copied[p.Key] > 1 && !m.chance(m.wrong) {
				continue
			}
		}
		r.Result = append(r.Result, p)
	}
	r.Cursor = m.Intn(1 + m.Intn(len(r.Result)+1))
	if m.chance(3 * m.wrong) {
		r.Cursor = pick(m, -1, 99, math.MinInt, math.MaxInt)
	}
	if m.chance(3 * m.wrong) {
		r.Key[m.Intn(len(r.Key))] = pick(m, nil, of('b', 'a'), of(0xD7FF, 0xE000))
	}
	return r
}

func (m maker) pass(most int) api.Pass {
	var p api.Pass
	for range m.Intn(most + 1) {
		p.Rules = append(p.Rules, m.rule())
	}
	return p
}

// fine is a pass that may be.
func (m maker) fine(most int) api.Pass {
	for {
		p := m.pass(most)
		if _, e := weigh.Check(p); e == api.OK {
			return p
		}
	}
}

// text is one with strays, some of which make a rune.
func (m maker) text(most int) string {
	var s string
	for range m.Intn(most + 1) {
		x, _ := utf.Join([]int{pick(m, crowd...)})
		s += x
	}
	return s
}

func TestPassesAsTheWordsSay(t *testing.T) { // P8.1, P8.2
	codes, places, seen := map[api.Errno]int{}, map[int]int{}, map[int]int{}
	for _, m := range []maker{{rand.New(rand.NewSource(81)), 0, 0}, {rand.New(rand.NewSource(82)), 20, 0}, {rand.New(rand.NewSource(83)), 3, 0}, {rand.New(rand.NewSource(84)), 30, 30}, {rand.New(rand.NewSource(85)), 6, 100}} {
		for range 700 {
			p := m.pass(14)
			n, code := checkByWords(p)
			codes[code]++
			if code != api.OK {
				places[n]++
			}
			checks(t, p, n, code)
			units, text := samples(p), m.text(12)
			var w map[int]int
			if code == api.OK {
				w, _ = leastByWords(p.Rules, slices.Compact(slices.Sorted(slices.Values(slices.Concat(units, crowd, utf.Cut(text))))))
			}
			for _, u := range slices.Concat(units, crowd) {
				weighs(t, p, u, w[u])
				seen[w[u]]++
			}
			sum := 0
			for _, u := range utf.Cut(text) {
				sum += w[u]
			}
			bound(t, p, text, sum)
		}
	}
	if codes[api.OK] < 1000 || codes[api.ErrWeighBack] < 50 || codes[api.ErrWeighMost] < 300 || codes[api.ErrRuleSet] < 20 || codes[api.ErrRuleCursor] < 20 || len(places) < 8 {
		t.Errorf("the passes are too tame or too wild: %v, %v", codes, places)
	}
	if len(seen) < 40 || seen[1] > 50*seen[2] {
		t.Errorf("the weights are too tame: %v", seen)
	}
}

// holds tells whether numbers are weights of rules.
func holds(l []api.Rule, w map[int]int) bool {
	for _, r := range l {
		n := needs(r, w)
		for u, x := range w {
			if has(r.Key[0], u) && x < n {
				return false
			}
		}
	}
	return true
}

func TestLeastOfAllThatAreWeights(t *testing.T) { // P8.1, P8.2
	m := maker{Rand: rand.New(rand.NewSource(86))}
	none, heavy := 0, 0
	for range 60 {
		var p api.Pass
		for range 1 + m.Intn(3) {
			r := api.Rule{Key: row(m.some(1+m.Intn(2)*m.Intn(2), []int{'a', 'b'}))}
			for range m.Intn(5) {
				r.Key = append(r.Key, row(m.some(1, []int{'a', 'b', 'x'}))...)
			}
			for range m.Intn(5) {
				u := pick[int](m, 'a', 'b', 'x', 'x', 'x', 'x')
				if len(r.Key) > 1 && m.Intn(3) == 0 {
					r.Result = append(r.Result, paired(1, of(u, u)))
				} else {
					r.Result = append(r.Result, unit(u))
				}
			}
			p.Rules = append(p.Rules, r)
		}
		wantN, wantCode := 0, api.OK
		least := map[int]int{}
		for n := range p.Rules {
			// All numbers up to 64 for a and b are looked at; x is in no first set.
			least = map[int]int{}
			for wa := 1; wa <= 64; wa++ {
				for wb := 1; wb <= 64; wb++ {
					if w := map[int]int{'a': wa, 'b': wb, 'x': 1}; holds(p.Rules[:n+1], w) {
						for u, x := range w {
							if least[u] == 0 || x < least[u] {
								least[u] = x
							}
						}
					}
				}
			}
			if len(least) == 0 {
				wantN, wantCode = n, api.ErrWeighMost
				none++
				break
			}
			if !holds(p.Rules[:n+1], least) {
				t.Fatalf("%v: the least numbers are no weights: %v", p.Rules[:n+1], least)
			}
		}
		checks(t, p, wantN, wantCode)
		for _, u := range []int{'a', 'b', 'x'} {
			weighs(t, p, u, least[u])
			if least[u] > 2 {
				heavy++
			}
		}
	}
	if none < 10 || none > 50 || heavy < 10 {
		t.Errorf("%d refused, %d heavy: the passes are too tame or too wild", none, heavy)
	}
}

func TestSamplesStandForAllUnits(t *testing.T) { // P8.2
	m := maker{rand.New(rand.NewSource(87)), 0, 0}
	p := m.fine(9)
	for len(p.Rules) < 5 {
		p = m.fine(9)
	}
	units := samples(p)
	w, _ := leastByWords(p.Rules, units)
	for u := 0; u <= lastRaw; u += 1 + m.Intn(2000) {
		want := 0
		if isUnit(u) {
			at, found := slices.BinarySearch(units, u)
			if !found {
				at--
			}
			want = w[units[at]]
		}
		if got := weigh.Weight(p, u); got != want {
			t.Errorf("%s: %x weighs %d, not %d", fmt.Sprint(p), u, got, want)
		}
	}
}
