package weigh_test

import (
	"math/rand"
	"slices"
	"strings"
	"testing"

	"respell/api"
	"respell/rule"
	"respell/utf"
	"respell/weigh"
)

// What follows of the chapter's promises: P8.3 (W3), P8.4, P8.5.

func standsAt(units []int, sets []api.Set) bool {
	if len(units) < len(sets) {
		return false
	}
	for i, s := range sets {
		if !has(s, units[i]) {
			return false
		}
	}
	return true
}

// fits tells whether a rule fits, as the document says what a pass does.
func fits(r api.Rule, done, left []int) bool {
	ahead := len(done) - len(r.Ante)
	if ahead < 0 || r.Begin && ahead > 0 || !standsAt(done[ahead:], r.Ante) || !standsAt(left, r.Key) {
		return false
	}
	behind := left[len(r.Key):]
	return standsAt(behind, r.Post) && (!r.End || len(behind) == len(r.Post))
}

// step does what is next, as the document says what a pass does; it tells the rule that was done, or -1.
func step(p api.Pass, done, left []int) (int, []int, []int) {
	best := -1
	for n, r := range p.Rules {
		if fits(r, done, left) && (best < 0 || len(r.Key) > len(p.Rules[best].Key)) {
			best = n
		}
	}
	if best < 0 {
		return best, append(done, left[0]), left[1:]
	}
	r := p.Rules[best]
	laid, back := rule.Lays(r, left[:len(r.Key)])
	return best, append(done, laid...), append(back, left[len(r.Key):]...)
}

// scales is the weights of units in a pass, each asked for once.
type scales struct {
	pass  api.Pass
	known map[int]int
}

func (s scales) of(units []int) int {
	sum := 0
	for _, u := range units {
		if s.known[u] == 0 {
			s.known[u] = weigh.Weight(s.pass, u)
		}
		sum += s.known[u]
	}
	return sum
}

// goes lets a pass go over a text, and tells how many steps it took and how many units were put back.
func goes(t *testing.T, p api.Pass, text string) (steps, back int) {
	t.Helper()
	s := scales{p, map[int]int{}}
	var done []int
	left := utf.Cut(text)
	most := weigh.Bound(p, text)
	if most != s.of(left) {
		t.Fatalf("%v: the bound of %q is %d, its weight %d", p, text, most, s.of(left))
	}
	for ; len(left) > 0; steps++ {
		before := s.of(left)
		var n int
		n, done, left = step(p, done, left)
		if after := s.of(left); after > before-1 {
			t.Fatalf("%v over %q: at step %d, rule %d, it weighs %d and then %d", p, text, steps, n, before, after)
		}
		if n >= 0 {
			back += len(p.Rules[n].Result) - p.Rules[n].Cursor
		}
	}
	if steps > most {
		t.Fatalf("%v over %q: %d steps, not %d at most", p, text, steps, most)
	}
	return steps, back
}

func TestEachStepMakesItLighter(t *testing.T) { // P8.3, W3
	put := 0
	for _, ring := range []int{0, 3} {
		m := maker{rand.New(rand.NewSource(88)), ring, 0}
		for range 1500 {
			p := m.fine(8)
			for range 4 {
				_, back := goes(t, p, m.text(20))
				put += back
			}
		}
	}
	if put < 20000 {
		t.Errorf("only %d units were put back: the passes are too tame", put)
	}
}

func TestThereAreRunsAsLongAsTheBound(t *testing.T) { // P8.3
	for _, x := range []struct{ pass, text string }{
		{"a > | bb ; b > | cc ; c > d", "abc"}, {"a > | bb ; b > | cc ; c > d", "aaaabbbbx\xFF"}, {"", "aé\xE2"}, {"a > b", "aaa"}, {"a > | bbbbbbb ; b > | cccccccc", "aa"}, {"x > | @1:[a] ; a > | bb", "xx"}, {"abc > | @3@2", "ab"}, {"\\b{80} > | é\\b{81}\\b{81} ; \\b{81} > | a", "\x80\x81x\x80"},
	} {
		p := read(t, x.pass)
		if steps, _ := goes(t, p, x.text); steps != weigh.Bound(p, x.text) {
			t.Errorf("%s over %q: %d steps, the bound is %d", x.pass, x.text, steps, weigh.Bound(p, x.text))
		}
	}
	// The ladder's first unit goes down all of it.
	p := api.Pass{Rules: ladder(63)}
	if steps, _ := goes(t, p, string(rune(0x1000))); steps != 64 || weigh.Weight(p, 0x1000) != 64 {
		t.Errorf("%d steps down the ladder", steps)
	}
}

func TestSomeThatEndAreRefused(t *testing.T) { // P8.3
	p := read(t, "ab > | ba")
	checks(t, p, 0, api.ErrWeighMost)
	var done []int
	left := utf.Cut("abbb")
	for steps := 0; len(left) > 0; steps++ {
		if steps > 100 {
			t.Fatal("it goes on and on")
		}
		_, done, left = step(p, done, left)
	}
	if text, _ := utf.Join(done); text != "bbba" {
		t.Errorf("%q", text)
	}
}

func TestAllIsDoneAndNothingPutBack(t *testing.T) { // P8.4
	m := maker{rand.New(rand.NewSource(89)), 2, 2}
	for range 500 {
		var p api.Pass
		for range m.Intn(20) {
			r := m.rule()
			r.Cursor = len(r.Result)
			if rule.Check(r) == api.OK {
				p.Rules = append(p.Rules, r)
			}
		}
		checks(t, p, 0, api.OK)
		for _, u := range crowd {
			weighs(t, p, u, 1)
		}
		text := m.text(30)
		bound(t, p, text, len(utf.Cut(text)))
	}
	for _, text := range []string{"a > a", "a > @1@1@1", "ab > @1@2@1@2", ". > aaaaaaaaaaaaaaaa", "[ab] > @1:[ba]", "abcdefgh > @1@1@1@1@1@1@1@1@1@1@1@1@1@1@1@1", "a > ", "a > |"} {
		p := read(t, text)
		checks(t, p, 0, api.OK)
		weighs(t, p, 'a', 1)
		bound(t, p, strings.Repeat("aé\xE2", 20), 60)
	}
}

func TestWhatIsInNoFirstSetWeighsOne(t *testing.T) { // P8.4
	m := maker{rand.New(rand.NewSource(90)), 5, 0}
	heavy := 0
	for range 700 {
		p := m.fine(9)
		for _, u := range crowd {
			w := weigh.Weight(p, u)
			if w < 1 || w > 64 {
				t.Errorf("%v: %x weighs %d", p, u, w)
			}
			if w > 1 {
				heavy++
				if !slices.ContainsFunc(p.Rules, func(r api.Rule) bool { return has(r.Key[0], u) }) {
					t.Errorf("%v: %x weighs %d", p, u, w)
				}
			}
		}
	}
	if heavy < 500 {
		t.Errorf("only %d weights above 1", heavy)
	}
}

// noLess holds the weights of a pass that asks for more against those of one that asks for less. It tells whether one of them is greater.
func noLess(t *testing.T, less, more api.Pass) bool {
	t.Helper()
	_, e := weigh.Check(more)
	if _, first := weigh.Check(less); first != api.OK {
		if e == api.OK {
			t.Errorf("%v may be, but %v may not", more, less)
		}
		return false
	}
	if e != api.OK {
		return true
	}
	greater := false
	for _, u := range crowd {
		x, y := weigh.Weight(less, u), weigh.Weight(more, u)
		greater = greater || y > x
		if y < x {
			t.Errorf("%x weighs %d in %v, and only %d in %v", u, x, less, y, more)
		}
	}
	return greater
}

func TestARuleMoreMakesNoWeightLess(t *testing.T) { // P8.5
	m := maker{rand.New(rand.NewSource(91)), 20, 0}
	greater := 0
	for range 1500 {
		p := m.pass(6)
		more := api.Pass{Rules: slices.Insert(slices.Clone(p.Rules), m.Intn(len(p.Rules)+1), m.rule())}
		if noLess(t, p, more) {
			greater++
		}
	}
	if greater < 300 {
		t.Errorf("only %d were greater", greater)
	}
}

func TestToPutBackMoreMakesNoWeightLess(t *testing.T) { // P8.5
	m := maker{rand.New(rand.NewSource(92)), 20, 0}
	greater := 0
	for range 1500 {
		p := m.pass(6)
		if len(p.Rules) == 0 {
			continue
		}
		n := m.Intn(len(p.Rules))
		more := api.Pass{Rules: slices.Clone(p.Rules)}
		r := &more.Rules[n]
		if r.Cursor > 0 && m.Intn(2) == 0 {
			r.Cursor = m.Intn(r.Cursor)
		} else {
			at := r.Cursor + m.Intn(len(r.Result)-r.Cursor+1)
			r.Result = slices.Insert(slices.Clone(r.Result), at, m.piece(r.Key, crowd))
		}
		if noLess(t, p, more) {
			greater++
		}
	}
	if greater < 300 {
		t.Errorf("only %d were greater", greater)
	}
}

func TestTheOrderIsNotSeen(t *testing.T) { // P8.5
	codes := map[api.Errno]int{}
	m := maker{rand.New(rand.NewSource(93)), 10, 0}
	for range 700 {
		p := m.pass(9)
		_, code := weigh.Check(p)
		codes[code]++
		for range 3 {
			q := api.Pass{Rules: slices.Clone(p.Rules)}
			m.Shuffle(len(q.Rules), func(i, k int) { q.Rules[i], q.Rules[k] = q.Rules[k], q.Rules[i] })
			if _, e := weigh.Check(q); e != code {
				t.Errorf("%v: %d, and %v: %d", p, code, q, e)
			}
			for _, u := range crowd {
				weighs(t, q, u, weigh.Weight(p, u))
			}
		}
		// A rule that stands there twice asks for nothing more.
		if len(p.Rules) > 0 && code == api.OK {
			twice := api.Pass{Rules: append(slices.Clone(p.Rules), pick(m, p.Rules...))}
			for _, u := range crowd {
				weighs(t, twice, u, weigh.Weight(p, u))
			}
		}
	}
	if codes[api.OK] < 200 || codes[api.ErrWeighMost] < 50 {
		t.Errorf("the passes are too tame or too wild: %v", codes)
	}
}
