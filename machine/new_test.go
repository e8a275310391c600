package machine_test

import (
	"fmt"
	"slices"
	"testing"

	"respell/api"
	"respell/machine"
	"respell/match"
	"respell/pass"
	"respell/utf"
	"respell/weigh"
)

// refuses holds that a pass gets no machine, and why.
func refuses(t *testing.T, p api.Pass, code api.Errno) {
	t.Helper()
	_, other := weigh.Check(p)
	if m, e := machine.New(p); m != nil || e != code || e != other {
		t.Errorf("%.300s: a machine: %t, %d, and weigh tells %d; want %d", fmt.Sprint(p), m != nil, e, other, code)
	}
}

// refused are rules that may not be in any pass, each for another reason: all errors of rule.Check, and of weigh.Check.
var refused = []struct {
	rules []api.Rule
	code  api.Errno
}{
	{[]api.Rule{{}}, api.ErrRuleKey},
	{[]api.Rule{{Key: slices.Repeat(row(a), 9)}}, api.ErrRuleKey},
	{[]api.Rule{{Ante: row(nil), Post: row(nil)}}, api.ErrRuleKey},
	{[]api.Rule{{Key: row(a), Ante: slices.Repeat(row(a), 9)}}, api.ErrRuleMany},
	{[]api.Rule{{Key: row(a), Post: slices.Repeat(row(a), 9)}}, api.ErrRuleMany},
	{[]api.Rule{{Key: row(a), Result: slices.Repeat(pieces(unit('a')), 17), Cursor: 17}}, api.ErrRuleMany},
	{[]api.Rule{{Key: row(of('b', 'a'))}}, api.ErrRuleSet},
	{[]api.Rule{{Key: row(a, nil)}}, api.ErrRuleSet},
	{[]api.Rule{{Key: row(a), Ante: row(of(0, maxRune))}}, api.ErrRuleSet},
	{[]api.Rule{{Key: row(a), Post: row(a, of('a', 'b', 'c', 'd'))}}, api.ErrRuleSet},
	{[]api.Rule{{Key: row(a), Result: pieces(unit(0xD800)), Cursor: 1}}, api.ErrRulePiece},
	{[]api.Rule{{Key: row(a), Result: pieces(api.Piece{}), Cursor: 1}}, api.ErrRulePiece},
	{[]api.Rule{{Key: row(a), Result: pieces(again(1)), Cursor: 1}}, api.ErrRuleCopy},
	{[]api.Rule{{Key: row(a), Result: pieces(again(-1)), Cursor: 1}}, api.ErrRuleCopy},
	{[]api.Rule{{Key: row(a), Result: pieces(paired(0, abc)), Cursor: 1}}, api.ErrRulePair},
	{[]api.Rule{{Key: row(a), Result: pieces(paired(0, nil)), Cursor: 1}}, api.ErrRulePair},
	{[]api.Rule{{Key: row(a), Cursor: 1}}, api.ErrRuleCursor},
	{[]api.Rule{{Key: row(a), Result: pieces(unit('b')), Cursor: -1}}, api.ErrRuleCursor},
	{[]api.Rule{{Key: row(a), Result: pieces(again(0))}}, api.ErrWeighBack},
	{[]api.Rule{{Key: row(a, a), Result: pieces(again(1), again(1))}}, api.ErrWeighBack},
	{[]api.Rule{{Key: row(a), Result: pieces(unit('a'))}}, api.ErrWeighMost},
	{[]api.Rule{{Key: row(a), Result: pieces(unit('b'))}, {Key: row(of('b', 'b')), Result: pieces(unit('a'))}}, api.ErrWeighMost},
}

func TestRefusedPasses(t *testing.T) { // P12.1: at the first rule, amidst, at the last
	good := read(t, "q > r ; qq > p | q ; x { s } y > s").Rules
	codes := map[api.Errno]int{}
	for _, x := range refused {
		codes[x.code]++
		refuses(t, rules(x.rules...), x.code)
		for n := range len(good) + 1 {
			refuses(t, rules(slices.Insert(slices.Clone(good), n, x.rules...)...), x.code)
		}
		for _, n := range []int{0, 100, 256 - len(x.rules)} {
			l := slices.Repeat(good[:1], 256-len(x.rules))
			refuses(t, rules(slices.Insert(l, n, x.rules...)...), x.code)
		}
	}
	if len(codes) != 9 {
		t.Errorf("not all errors: %v", codes)
	}
	for _, n := range []int{257, 512, 65537} {
		refuses(t, rules(slices.Repeat(good[:1], n)...), api.ErrRuleMany)
		refuses(t, rules(make([]api.Rule, n)...), api.ErrRuleMany)
	}
}

func TestTheFirstErrorOfSeveral(t *testing.T) { // P12.1: rules ahead of weights
	bad := api.Rule{Key: row(a), Cursor: 1}
	circle := api.Rule{Key: row(a), Result: pieces(unit('a'))}
	twice := api.Rule{Key: row(a, a), Result: pieces(again(1), again(1))}
	refuses(t, rules(circle, twice, bad), api.ErrRuleCursor)
	refuses(t, rules(circle, twice), api.ErrWeighBack)
	refuses(t, rules(circle), api.ErrWeighMost)
	refuses(t, rules(bad, api.Rule{}), api.ErrRuleCursor)
	refuses(t, rules(slices.Repeat([]api.Rule{{}}, 257)...), api.ErrRuleMany)
	// What match would take, as weights are not asked there, is no machine.
	p := read(t, "a > | a")
	if match.Find(p, nil, []int{'a'}) != 0 {
		t.Error("match refuses it")
	}
	refuses(t, p, api.ErrWeighMost)
}

func TestHowManyRules(t *testing.T) { // P12.1
	about(t, api.Pass{}).finds(t, nil, []int{'a'}, -1)
	about(t, rules(api.Rule{Key: row(a)})).finds(t, nil, []int{'a'}, 0)
	for _, n := range []int{2, 63, 64, 65, 128, 255, 256} {
		var p api.Pass
		for i := range n {
			p.Rules = append(p.Rules, api.Rule{Key: row(of(i, i)), Result: pieces(unit(0x1000 + i)), Cursor: 1})
		}
		m := about(t, p)
		for i := range n {
			m.finds(t, nil, []int{i}, i)
			m.runs(t, string(rune(i)), string(rune(0x1000+i)))
		}
		m.finds(t, nil, []int{n}, -1)
	}
}

// full is a pass of 256 rules, as long as they may be: with 24 sets each, all unlike, or nearly so.
func full() api.Pass {
	var p api.Pass
	u := 0
	next := func(n int) []api.Set {
		var l []api.Set
		for range n {
			l = append(l, of(u, u, 0x8000+u, 0x8000+u))
			u += 2
		}
		return l
	}
	for n := range 256 {
		p.Rules = append(p.Rules, api.Rule{Ante: next(8), Key: next(8), Post: next(8), Result: slices.Repeat(pieces(unit(0xE000+n)), 16), Cursor: 16})
	}
	return p
}

func TestAsManyRulesAsLongAsTheyMayBe(t *testing.T) { // P12.1, P12.2, P12.3
	p := full()
	m := made(t, p)
	for _, n := range []int{0, 1, 63, 64, 127, 128, 200, 255} {
		r := p.Rules[n]
		var done, left []int
		for i, s := range r.Ante {
			done = append(done, s[i%2].Lo)
		}
		for i, s := range slices.Concat(r.Key, r.Post) {
			left = append(left, s[(i+1)%2].Lo)
		}
		if got := m.Find(done, left); got != n {
			t.Errorf("%d, not %d", got, n)
		}
		for i, u := range left {
			left[i] = u + 1
			if got := m.Find(done, left); got != -1 {
				t.Errorf("%d, not none, at %d", got, i)
			}
			left[i] = u
		}
		for i, u := range done {
			done[i] = u + 1
			if got := m.Find(done, left); got != -1 {
				t.Errorf("%d, not none, behind %d", got, i)
			}
			done[i] = u
		}
		text, _ := utf.Join(slices.Concat(done, left))
		same(t, p, m, text)
		if got, _ := m.Run(text); len(utf.Cut(got)) != 8+16+8 {
			t.Errorf("rule %d is not done", n)
		}
	}
}

func TestGreatSets(t *testing.T) { // P12.1, P12.2: 512 ranges each
	most := make(api.Set, 512)
	for i := range most {
		most[i] = api.Range{Lo: 3 * i, Hi: 3*i + 1}
	}
	var p api.Pass
	for n := range 256 {
		r := api.Rule{Ante: slices.Repeat(row(most), 8), Key: slices.Repeat(row(most), 8), Post: slices.Repeat(row(most), 8), Result: slices.Repeat(pieces(paired(7, most)), 16), Cursor: 16}
		r.Post[7] = slices.Delete(slices.Clone(most), 2*n, 2*n+2)
		p.Rules = append(p.Rules, r)
	}
	m := made(t, p)
	done, left := slices.Repeat([]int{0}, 8), slices.Repeat([]int{1}, 16)
	for last, want := range map[int]int{0: 1, 1: 1, 2: -1, 3: 1, 4: 1, 6: 0, 9: 0, 1533: 0, 1535: -1} {
		left[15] = last
		if got := m.Find(done, left); got != want {
			t.Errorf("with %d: %d, not %d", last, got, want)
		}
	}
	left[15] = 1534
	if got := m.Find(done[1:], left); got != -1 {
		t.Errorf("too few ahead: %d", got)
	}
}

// spoilt are ways to change a pass in place, each in another list of it.
var spoilt = []func(p api.Pass){
	func(p api.Pass) { p.Rules[0] = api.Rule{} },
	func(p api.Pass) { clear(p.Rules) },
	func(p api.Pass) { p.Rules[0], p.Rules[2] = p.Rules[2], p.Rules[0] },
	func(p api.Pass) { p.Rules[1].Cursor = 99 },
	func(p api.Pass) { p.Rules[0].Cursor = 0 },
	func(p api.Pass) { p.Rules[0].Begin, p.Rules[1].End = true, true },
	func(p api.Pass) { p.Rules[0].Ante[0] = nil },
	func(p api.Pass) { p.Rules[0].Ante[0] = of('q', 'q') },
	func(p api.Pass) { p.Rules[0].Ante[0][0] = api.Range{Lo: 'q', Hi: 'q'} },
	func(p api.Pass) { p.Rules[0].Key[0] = of('q', 'q') },
	func(p api.Pass) { p.Rules[0].Key[0][0] = api.Range{Lo: 'q', Hi: 'q'} },
	func(p api.Pass) { p.Rules[0].Key[1][0] = api.Range{Lo: 'q', Hi: 'q'} },
	func(p api.Pass) { p.Rules[0].Key[1][0] = api.Range{Lo: 9, Hi: -9} },
	func(p api.Pass) { p.Rules[0].Post[0] = nil },
	func(p api.Pass) { p.Rules[0].Post[0][0].Hi = -1 },
	func(p api.Pass) { p.Rules[0].Post[0][0] = api.Range{Lo: 0, Hi: 0xD7FF} },
	func(p api.Pass) { p.Rules[0].Result[0] = api.Piece{} },
	func(p api.Pass) { p.Rules[0].Result[0].Unit = 'q' },
	func(p api.Pass) { p.Rules[0].Result[1].To[0] = api.Range{Lo: 'p', Hi: 'q'} },
	func(p api.Pass) { p.Rules[0].Result[1].To[0].Hi = 'z' },
	func(p api.Pass) { p.Rules[0].Result[1].To = nil },
	func(p api.Pass) { p.Rules[0].Result[2].Key = 7 },
	func(p api.Pass) { p.Rules[0].Result[2] = unit('q') },
	func(p api.Pass) { spoilRoom(p) },
}

// spoilRoom writes into the spare room behind all lists, as far as they have some.
func spoilRoom(p api.Pass) {
	spoilBehind(p.Rules, api.Rule{Key: row(all)})
	for _, r := range p.Rules {
		for _, l := range [][]api.Set{r.Ante, r.Key, r.Post} {
			spoilBehind(l, all)
			for _, s := range l {
				spoilBehind(s, api.Range{Lo: 0, Hi: maxRune})
			}
		}
		spoilBehind(r.Result, unit('q'))
		for _, x := range r.Result {
			spoilBehind(x.To, api.Range{Lo: 0, Hi: maxRune})
		}
	}
}

func spoilBehind[T any](l []T, x T) {
	room := l[len(l):cap(l)]
	for i := range room {
		room[i] = x
	}
}

func TestWhatIsWrittenLaterIsNotSeen(t *testing.T) { // P12.1, R4
	const text, over = "x { ab } y > x | @1:[c] @2 ; x { cb > x ; a > xx", "xabyaabyaby"
	const steps = "-1: 0 11 1 1 0; 0: 1 10 2 1 2; 1: 2 10 2 1 0; -1: 3 8 1 1 0; 2: 4 7 1 2 0; 0: 6 6 2 1 2; 1: 7 6 2 1 0; -1: 8 4 1 1 0; 2: 9 3 1 2 0; -1: 11 2 1 1 0; -1: 12 1 1 1 0"
	const result = "xxxyxxxxyxxby"
	holds := func(m *machine.Machine, n int) {
		t.Helper()
		if got, e := m.Run(over); got != result || e != api.OK {
			t.Errorf("%d: Run tells %q, %d", n, got, e)
		}
		if got := written(slices.Collect(stepsOf(t, m, over))); got != steps {
			t.Errorf("%d: Steps tells %s", n, got)
		}
		for _, x := range []struct {
			done, left string
			want       int
		}{{"x", "aby", 0}, {"yx", "abyq", 0}, {"x", "ab", 2}, {"", "aby", 2}, {"x", "cb", 1}, {"x", "q", -1}, {"", "cb", -1}} {
			if got := m.Find(utf.Cut(x.done), utf.Cut(x.left)); got != x.want {
				t.Errorf("%d: Find between %q and %q: %d, not %d", n, x.done, x.left, got, x.want)
			}
		}
	}
	for n, spoil := range spoilt {
		p := roomyPass(read(t, text))
		m := made(t, p)
		seq := stepsOf(t, m, over)
		spoil(p)
		holds(m, n)
		if got := written(slices.Collect(seq)); got != steps {
			t.Errorf("%d: an iterator that was there tells %s", n, got)
		}
		// Amidst a going through.
		for at := range 11 {
			p := roomyPass(read(t, text))
			m := made(t, p)
			var got []api.Step
			for s := range stepsOf(t, m, over) {
				got = append(got, s)
				if len(got) == at {
					spoil(p)
				}
			}
			if written(got) != steps {
				t.Errorf("%d at %d: %s", n, at, written(got))
			}
			holds(m, n)
		}
	}
	// Two machines of one pass, between which it has changed.
	p := read(t, "a > x ; b > y")
	first := made(t, p)
	p.Rules[0].Result[0].Unit = 'z'
	p.Rules[1].Key[0][0] = api.Range{Lo: 'c', Hi: 'c'}
	second := made(t, p)
	for want, m := range map[string]*machine.Machine{"xyc": first, "zby": second} {
		if got, e := m.Run("abc"); got != want || e != api.OK {
			t.Errorf("%q, not %q", got, want)
		}
	}
	if got, _ := pass.Run(p, "abc"); got != "zby" {
		t.Errorf("pass tells %q", got)
	}
}
