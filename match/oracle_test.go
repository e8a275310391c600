package match_test

import (
	"math"
	"math/rand"
	"slices"
	"testing"

	"respell/api"
	"respell/rule"
)

// What the chapter says, worked out anew: done and left are one row, on which the three rows of a rule are laid as one.

func has(s api.Set, u int) bool {
	return slices.ContainsFunc(s, func(r api.Range) bool { return r.Lo <= u && u <= r.Hi })
}

func fitsByWords(r api.Rule, done, left []int) bool {
	if rule.Check(r) != api.OK {
		return false
	}
	units, sets := slices.Concat(done, left), slices.Concat(r.Ante, r.Key, r.Post)
	from := len(done) - len(r.Ante)
	to := from + len(sets)
	if from < 0 || to > len(units) || r.Begin && from != 0 || r.End && to != len(units) {
		return false
	}
	for i, s := range sets {
		if !has(s, units[from+i]) {
			return false
		}
	}
	return true
}

func findByWords(p api.Pass, done, left []int) int {
	if _, e := rule.All(p); e != api.OK {
		return -1
	}
	for length := 8; length > 0; length-- {
		for n, r := range p.Rules {
			if len(r.Key) == length && fitsByWords(r, done, left) {
				return n
			}
		}
	}
	return -1
}

// maker makes rules, passes and places, any of them. Of what may not be at all, it makes one of wrong; 0: none.
type maker struct {
	*rand.Rand
	wrong int
}

func (m maker) chance(n int) bool { return n > 0 && m.Intn(n) == 0 }

func pick[T any](m maker, l ...T) T { return l[m.Intn(len(l))] }

// crowd is units of which some stand side by side, at all edges.
var crowd = []int{0, 1, 'a', 'b', 'c', 0x7F, 0x80, 0xD7FF, 0xE000, 0xFFFD, maxRune, firstRaw, firstRaw + 1, 0x1100C3, lastRaw}

// some is a set of n of the crowd.
func (m maker) some(n int) api.Set {
	l := slices.Clone(crowd)
	m.Shuffle(len(l), func(i, j int) { l[i], l[j] = l[j], l[i] })
	l = l[:n]
	slices.Sort(l)
	var s api.Set
	for _, u := range l {
		if n := len(s); n > 0 && s[n-1].Hi == u-1 {
			s[n-1].Hi = u
		} else {
			s = append(s, api.Range{Lo: u, Hi: u})
		}
	}
	return s
}

// set is mostly a great one, as rows of small ones fit nowhere.
func (m maker) set() api.Set {
	switch {
	case m.chance(40 * m.wrong):
		return pick(m, nil, of('b', 'a'), of(0, maxRune), of('a', 'b', 'c', 'c'), of(0x1100FF, 0x110100))
	case m.Intn(2) == 0:
		return all
	}
	return m.some(1 + m.Intn(len(crowd)))
}

func (m maker) row(n int) []api.Set {
	var l []api.Set
	for range n {
		l = append(l, m.set())
	}
	return l
}

// many is a count that is mostly small, and at times the greatest one.
func (m maker) many(most int) int {
	return min(most, pick(m, 0, 0, 1, 1, 2, 3, most, m.Intn(most+1)))
}

func (m maker) rule() api.Rule {
	r := api.Rule{Begin: m.Intn(5) == 0, End: m.Intn(5) == 0, Ante: m.row(m.many(8)), Key: m.row(max(1, m.many(8))), Post: m.row(m.many(8))}
	for range m.Intn(3) {
		k := m.Intn(len(r.Key))
		r.Result = append(r.Result, pick(m, unit(pick(m, crowd...)), again(k), paired(k, r.Key[k])))
	}
	r.Cursor = m.Intn(len(r.Result) + 1)
	if m.chance(10 * m.wrong) {
		r.Cursor = pick(m, -1, 99, math.MinInt, math.MaxInt)
	}
	if m.chance(20 * m.wrong) {
		*pick(m, &r.Ante, &r.Key, &r.Post) = m.row(9)
	}
	return r
}

func (m maker) pass(most int) api.Pass {
	var p api.Pass
	for range m.Intn(most + 1) {
		p.Rules = append(p.Rules, m.rule())
	}
	return p
}

// number is a unit, mostly one of the crowd, or none.
func (m maker) number() int {
	switch m.Intn(30) {
	case 0:
		return pick(m, noUnits...)
	case 1:
		return m.Intn(0x110200)
	}
	return pick(m, crowd...)
}

func (m maker) numbers(n int) []int {
	var l []int
	for range n {
		l = append(l, m.number())
	}
	return l
}

// at is a unit of a set, if it has one.
func (m maker) at(s api.Set) int {
	l := slices.DeleteFunc(slices.Clone(crowd), func(u int) bool { return !has(s, u) })
	if len(l) == 0 {
		return m.number()
	}
	return pick(m, l...)
}

// place is one at which a rule of a pass fits, or nearly does; or any.
func (m maker) place(p api.Pass) (done, left []int) {
	if len(p.Rules) == 0 || m.Intn(4) == 0 {
		return m.numbers(m.many(20)), m.numbers(m.many(30))
	}
	r := pick(m, p.Rules...)
	for _, s := range r.Ante {
		done = append(done, m.at(s))
	}
	for _, s := range slices.Concat(r.Key, r.Post) {
		left = append(left, m.at(s))
	}
	if !r.Begin || m.Intn(3) == 0 {
		done = slices.Concat(m.numbers(m.many(12)), done)
	}
	if !r.End || m.Intn(3) == 0 {
		left = slices.Concat(left, m.numbers(m.many(20)))
	}
	for _, l := range [][]int{done, left} {
		if len(l) > 0 && m.Intn(4) == 0 {
			l[m.Intn(len(l))] = m.number()
		}
	}
	switch m.Intn(12) {
	case 0:
		left = left[:m.Intn(len(left)+1)]
	case 1:
		done = done[m.Intn(len(done)+1):]
	}
	return done, left
}

func TestRulesAsTheWordsSay(t *testing.T) { // P9.1
	m := maker{rand.New(rand.NewSource(91)), 2}
	yes, codes := 0, map[api.Errno]int{}
	for range 60000 {
		r := m.rule()
		codes[rule.Check(r)]++
		done, left := m.place(api.Pass{Rules: []api.Rule{r}})
		want := fitsByWords(r, done, left)
		if want {
			yes++
		}
		fits(t, r, done, left, want)
	}
	if yes < 15000 || yes > 45000 || len(codes) < 5 {
		t.Errorf("%d fit, %v: the rules are too tame or too wild", yes, codes)
	}
}

func TestPassesAsTheWordsSay(t *testing.T) { // P9.2
	found, refused := map[int]int{}, 0
	for _, m := range []maker{{rand.New(rand.NewSource(92)), 0}, {rand.New(rand.NewSource(93)), 3}} {
		for range 4000 {
			p := m.pass(12)
			if _, e := rule.All(p); e != api.OK {
				refused++
			}
			for range 4 {
				done, left := m.place(p)
				want := findByWords(p, done, left)
				found[want]++
				finds(t, p, done, left, want)
			}
		}
	}
	if len(found) < 13 || found[-1] > 20000 || refused < 500 || refused > 3500 {
		t.Errorf("%d refused, %v: the passes are too tame or too wild", refused, found)
	}
}
