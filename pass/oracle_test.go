package pass_test

import (
	"math"
	"math/rand"
	"slices"
	"testing"
	"unicode/utf8"

	"respell/api"
	"respell/pass"
	"respell/utf"
	"respell/weigh"
)

// What the document says, worked out anew: DONE and LEFT are lists that are made anew at each step.

func has(s api.Set, u int) bool {
	return slices.ContainsFunc(s, func(r api.Range) bool { return r.Lo <= u && u <= r.Hi })
}

func standsAt(units []int, sets []api.Set) bool {
	if len(units) < len(sets) {
		return false
	}
	for i, s := range sets {
		if !has(s, units[i]) {
			return false
		}
	}
	return true
}

func fitsByWords(r api.Rule, done, left []int) bool {
	ahead := len(done) - len(r.Ante)
	if ahead < 0 || r.Begin && ahead > 0 || !standsAt(done[ahead:], r.Ante) || !standsAt(left, r.Key) {
		return false
	}
	behind := left[len(r.Key):]
	return standsAt(behind, r.Post) && (!r.End || len(behind) == len(r.Post))
}

// inOrder is the units of a set, one by one.
func inOrder(s api.Set) []int {
	var l []int
	for _, r := range s {
		for u := r.Lo; u <= r.Hi; u++ {
			l = append(l, u)
		}
	}
	return l
}

func writesByWords(r api.Rule, key []int) []int {
	var l []int
	for _, p := range r.Result {
		switch p.Kind {
		case api.PUnit:
			l = append(l, p.Unit)
		case api.PCopy:
			l = append(l, key[p.Key])
		case api.PPair:
			l = append(l, inOrder(p.To)[slices.Index(inOrder(r.Key[p.Key]), key[p.Key])])
		}
	}
	return l
}

func unitsByWords(s string) []int {
	var l []int
	for len(s) > 0 {
		r, n := utf8.DecodeRuneInString(s)
		if r == utf8.RuneError && n == 1 {
			l = append(l, 0x110000+int(s[0]))
		} else {
			l = append(l, int(r))
		}
		s = s[n:]
	}
	return l
}

func textByWords(l []int) string {
	var b []byte
	for _, u := range l {
		if u >= 0x110000 {
			b = append(b, byte(u-0x110000))
		} else {
			b = utf8.AppendRune(b, rune(u))
		}
	}
	return string(b)
}

// goesByWords is the steps of a pass that may be, and the text that they leave behind.
func goesByWords(p api.Pass, s string) ([]api.Step, string) {
	var steps []api.Step
	var done []int
	left := unitsByWords(s)
	for len(left) > 0 {
		best := -1
		for n, r := range p.Rules {
			if fitsByWords(r, done, left) && (best < 0 || len(r.Key) > len(p.Rules[best].Key)) {
				best = n
			}
		}
		took, all, cursor := 1, left[:1], 1
		if best >= 0 {
			r := p.Rules[best]
			took, all, cursor = len(r.Key), writesByWords(r, left[:len(r.Key)]), r.Cursor
		}
		steps = append(steps, api.Step{Rule: best, Done: len(done), Left: len(left), Took: took, Laid: cursor, Back: len(all) - cursor})
		done, left = slices.Concat(done, all[:cursor]), slices.Concat(all[cursor:], left[took:])
	}
	return steps, textByWords(done)
}

// maker makes passes and texts, any of them. Of what a rule puts back, one in ring is a unit that may stand at its key's beginning; of what may not be at all, it makes one of wrong; 0: none.
type maker struct {
	*rand.Rand
	ring, wrong int
}

func (m maker) chance(n int) bool { return n > 0 && m.Intn(n) == 0 }

func pick[T any](m maker, l ...T) T { return l[m.Intn(len(l))] }

// crowd is units at all edges; the strays among them make runes with one another.
var crowd = []int{0, 'a', 'b', 'c', 0x7F, 0x80, 0x7FF, 0x20AC, 0xD7FF, 0xE000, 0xFFFD, 0x10000, maxRune, firstRaw, 0x110082, 0x1100AC, 0x1100C3, 0x1100E2, 0x1100EF, 0x1100F0, lastRaw}

// some is a set of n of some units.
func (m maker) some(n int, of []int) api.Set {
	l := slices.Clone(of)
	m.Shuffle(len(l), func(i, j int) { l[i], l[j] = l[j], l[i] })
	l = l[:min(n, len(l))]
	slices.Sort(l)
	var s api.Set
	for _, u := range l {
		if n := len(s); n > 0 && s[n-1].Hi == u-1 {
			s[n-1].Hi = u
		} else {
			s = append(s, api.Range{Lo: u, Hi: u})
		}
	}
	return s
}

// row is one of mostly great sets, as rows of small ones fit nowhere.
func (m maker) row(n int) []api.Set {
	var l []api.Set
	for range n {
		if m.Intn(2) == 0 {
			l = append(l, all)
		} else {
			l = append(l, m.some(1+m.Intn(len(crowd)), crowd))
		}
	}
	return l
}

// many is a count that is mostly small, and at times the greatest one.
func (m maker) many(most int) int {
	return min(most, pick(m, 0, 0, 0, 0, 1, 1, 2, m.Intn(most+1)))
}

func size(s api.Set) int {
	n := 0
	for _, r := range s {
		n += r.Hi - r.Lo + 1
	}
	return n
}

func (m maker) piece(key []api.Set, above []int) api.Piece {
	if m.chance(m.ring) {
		above = crowd
	}
	k := m.Intn(len(key))
	switch n := size(key[k]); {
	case m.Intn(3) == 0 && n <= len(above):
		return paired(k, m.some(n, above))
	case m.Intn(2) == 0:
		return again(k)
	}
	return unit(pick(m, above...))
}

// rule is one that begins with units of a stretch of the crowd, and mostly puts back what is above these.
func (m maker) rule() api.Rule {
	from := m.Intn(len(crowd) - 5)
	r := api.Rule{Begin: m.Intn(9) == 0, End: m.Intn(9) == 0, Key: row(m.some(1+m.Intn(4), crowd[from:from+4])), Ante: m.row(m.many(8)), Post: m.row(m.many(8))}
	r.Key = append(r.Key, m.row(m.many(7))...)
	if m.Intn(8) == 0 {
		r.Key[0] = m.some(1+m.Intn(len(crowd)), crowd)
	}
	for range m.Intn(7) {
		r.Result = append(r.Result, m.piece(r.Key, crowd[from+4:]))
	}
	r.Cursor = pick(m, len(r.Result), m.Intn(len(r.Result)+1), m.Intn(len(r.Result)+1))
	if m.chance(3 * m.wrong) {
		r.Cursor = pick(m, -1, 99, math.MinInt, math.MaxInt)
	}
	if m.chance(3 * m.wrong) {
		r.Key[m.Intn(len(r.Key))] = pick(m, nil, of('b', 'a'), of(0xD7FF, 0xE000))
	}
	return r
}

func (m maker) pass(most int) api.Pass {
	var p api.Pass
	for range m.Intn(most + 1) {
		p.Rules = append(p.Rules, m.rule())
	}
	return p
}

// fine is a pass that may be: rules that stand in the way are left out.
func (m maker) fine(most int) api.Pass {
	p := m.pass(most)
	for {
		n, e := weigh.Check(p)
		if e == api.OK {
			return p
		}
		p.Rules = slices.Delete(p.Rules, n, n+1)
	}
}

// text is one with strays, some of which make a rune.
func (m maker) text(most int) string {
	var l []int
	for range m.Intn(most + 1) {
		l = append(l, pick(m, crowd...))
	}
	return textByWords(l)
}

func TestPassesAsTheWordsSay(t *testing.T) { // P10.1, P10.2
	put, fit, over, longest, improper := 0, 0, 0, 0, 0
	for _, m := range []maker{{rand.New(rand.NewSource(101)), 0, 0}, {rand.New(rand.NewSource(102)), 5, 0}, {rand.New(rand.NewSource(103)), 1, 0}} {
		for range 2000 {
			p := m.fine(pick(m, 5, 10, 30))
			for range 4 {
				text := m.text(30)
				steps, want := goesByWords(p, text)
				runs(t, p, text, want)
				if got := slices.Collect(stepsOf(t, p, text)); !slices.Equal(got, steps) {
					t.Fatalf("%v over %q: %s; want %s", p, text, written(got), written(steps))
				}
				laid := 0
				for _, s := range steps {
					put += s.Back
					laid += s.Laid
					if s.Rule < 0 {
						over++
					} else {
						fit++
					}
				}
				longest = max(longest, len(steps))
				if len(utf.Cut(want)) < laid {
					improper++
				}
			}
		}
	}
	if put < 10000 || fit < 50000 || over < 50000 || longest < 60 || improper < 500 {
		t.Errorf("%d put back, %d by a rule, %d over, %d at most, %d improper: the passes are too tame or too wild", put, fit, over, longest, improper)
	}
}

func TestAnyPassesAndTheirErrors(t *testing.T) { // P10.1, P10.2
	codes := map[api.Errno]int{}
	for _, m := range []maker{{rand.New(rand.NewSource(104)), 4, 0}, {rand.New(rand.NewSource(105)), 4, 4}} {
		for range 1000 {
			p, text := m.pass(6), m.text(10)
			_, code := weigh.Check(p)
			codes[code]++
			if code != api.OK {
				refuses(t, p, text, code)
				continue
			}
			_, want := goesByWords(p, text)
			runs(t, p, text, want)
		}
	}
	if len(codes) < 5 || codes[api.OK] < 300 || codes[api.ErrWeighBack] < 100 || codes[api.ErrWeighMost] < 50 {
		t.Errorf("the passes are too tame or too wild: %v", codes)
	}
}

func TestLongTextsAsTheWordsSay(t *testing.T) { // P10.1, P10.2
	m := maker{rand.New(rand.NewSource(106)), 5, 0}
	for range 12 {
		p, text := m.fine(40), m.text(2000)
		steps, want := goesByWords(p, text)
		runs(t, p, text, want)
		if got := slices.Collect(stepsOf(t, p, text)); !slices.Equal(got, steps) {
			t.Fatalf("%v over %.60q: %d steps, not these %d", p, text, len(got), len(steps))
		}
	}
}

// pass.Run is asked of all short texts over some units, so that no text is too rare to come by chance.
func TestAllShortTexts(t *testing.T) { // P10.1, P10.2
	few := []string{"a", "b", "\xC3", "\xA9", "é"}
	for _, rules := range []string{
		"", "a > ", "a > | b ; b > a", "ab > ba | ; é > | \\b{C3}\\b{A9}", "\\b{C3}\\b{A9} > x", "a { \\b{C3} > | \\b{A9} b ; b > ", "^ { . > ; b } $ > aa", "aa > | a ; [ab] } é > @1:[\\b{C3}\\b{A9}]", ".. > @2 @1", "a . > @2 | b ; b { b > é",
	} {
		p := read(t, rules)
		texts := []string{""}
		for range 5 {
			for _, text := range texts {
				steps, want := goesByWords(p, text)
				runs(t, p, text, want)
				if got, e := pass.Steps(p, text); e != api.OK || !slices.Equal(slices.Collect(got), steps) {
					t.Errorf("%s over %q: not these %s, %d", rules, text, written(steps), e)
				}
			}
			var longer []string
			for _, text := range texts {
				for _, x := range few {
					longer = append(longer, text+x)
				}
			}
			texts = longer
		}
	}
}
