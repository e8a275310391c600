package trace_test

import (
	"math/rand"
	"slices"
	"testing"
	"unicode/utf8"

	"respell/api"
	"respell/trace"
	"respell/weigh"
)

// What the document says, worked out anew: LEFT is a list that is made anew at each step, in which each unit says where it came from.

// origin is a unit, and its place in the source; -1: it was put back.
type origin struct{ unit, at int }

func has(s api.Set, u int) bool {
	return slices.ContainsFunc(s, func(r api.Range) bool { return r.Lo <= u && u <= r.Hi })
}

func bytesOf(u int) string {
	if u >= 0x110000 {
		return string([]byte{byte(u - 0x110000)})
	}
	return string(rune(u))
}

func unitsByWords(s string) []origin {
	var l []origin
	for at := 0; at < len(s); {
		r, n := utf8.DecodeRuneInString(s[at:])
		u := int(r)
		if r == utf8.RuneError && n == 1 {
			u = 0x110000 + int(s[at])
		}
		l, at = append(l, origin{u, at}), at+n
	}
	return l
}

func standsAt(l []origin, sets []api.Set) bool {
	if len(l) < len(sets) {
		return false
	}
	for i, s := range sets {
		if !has(s, l[i].unit) {
			return false
		}
	}
	return true
}

func fitsByWords(r api.Rule, done, left []origin) bool {
	ahead := len(done) - len(r.Ante)
	if ahead < 0 || r.Begin && ahead > 0 || !standsAt(done[ahead:], r.Ante) || !standsAt(left, r.Key) {
		return false
	}
	behind := left[len(r.Key):]
	return standsAt(behind, r.Post) && (!r.End || len(behind) == len(r.Post))
}

// inOrder is the units of a set, one by one.
func inOrder(s api.Set) []int {
	var l []int
	for _, r := range s {
		for u := r.Lo; u <= r.Hi; u++ {
			l = append(l, u)
		}
	}
	return l
}

func writesByWords(r api.Rule, key []origin) []origin {
	var l []origin
	for _, p := range r.Result {
		u := p.Unit
		switch p.Kind {
		case api.PCopy:
			u = key[p.Key].unit
		case api.PPair:
			u = inOrder(p.To)[slices.Index(inOrder(r.Key[p.Key]), key[p.Key].unit)]
		}
		l = append(l, origin{u, -1})
	}
	return l
}

// told is what a run says of its blocks, worked out by the words.
type told struct {
	blocks    []api.Block
	result    string
	untouched []api.Block // the units that went over while the pass was clean
	deep      int         // how many steps the longest block has
}

// goesByWords follows a pass that may be over a text.
func goesByWords(p api.Pass, s string) told {
	var x told
	var done []origin
	left := unitsByWords(s)
	lastS, lastR, steps := 0, 0, 0
	for len(left) > 0 {
		best := -1
		for n, r := range p.Rules {
			if fitsByWords(r, done, left) && (best < 0 || len(r.Key) > len(p.Rules[best].Key)) {
				best = n
			}
		}
		took, laid, back := 1, left[:1], []origin(nil)
		if best >= 0 {
			r := p.Rules[best]
			took = len(r.Key)
			l := writesByWords(r, left[:took])
			laid, back = l[:r.Cursor], l[r.Cursor:]
		}
		done, left = slices.Concat(done, laid), slices.Concat(back, left[took:])
		for _, o := range laid {
			x.result += bytesOf(o.unit)
		}
		steps++
		if slices.ContainsFunc(left, func(o origin) bool { return o.at < 0 }) {
			continue
		}
		at := len(s)
		if len(left) > 0 {
			at = left[0].at
		}
		b := api.Block{S0: lastS, S1: at, R0: lastR, R1: len(x.result)}
		x.blocks = append(x.blocks, b)
		if best < 0 && steps == 1 {
			x.untouched = append(x.untouched, b)
		}
		x.deep = max(x.deep, steps)
		lastS, lastR, steps = b.S1, b.R1, 0
	}
	return x
}

// pair is a border.
type pair struct{ s, r int }

// bordersByWords is the borders of blocks, and whether these join.
func bordersByWords(l []api.Block) ([]pair, bool) {
	out := []pair{{0, 0}}
	for i, b := range l {
		if i == 0 && (b.S0 != 0 || b.R0 != 0) || i > 0 && (b.S0 != l[i-1].S1 || b.R0 != l[i-1].R1) || !(b.S1 > b.S0) || b.R1 < b.R0 {
			return nil, false
		}
		out = append(out, pair{b.S1, b.R1})
	}
	return out, true
}

func toByWords(l []api.Block, at int) (int, int) {
	borders, joins := bordersByWords(l)
	if !joins || at < 0 || at > borders[len(borders)-1].s {
		return 0, 0
	}
	for _, b := range borders {
		if b.s == at {
			return b.r, b.r
		}
	}
	i := slices.IndexFunc(l, func(b api.Block) bool { return b.S0 < at && at < b.S1 })
	return l[i].R0, l[i].R1
}

func fromByWords(l []api.Block, at int) (int, int) {
	borders, joins := bordersByWords(l)
	if !joins || at < 0 || at > borders[len(borders)-1].r {
		return 0, 0
	}
	var met []int
	for _, b := range borders {
		if b.r == at {
			met = append(met, b.s)
		}
	}
	if len(met) > 0 {
		return met[0], met[len(met)-1]
	}
	i := slices.IndexFunc(l, func(b api.Block) bool { return b.R0 < at && at < b.R1 })
	return l[i].S0, l[i].S1
}

func throughByWords(a, b []api.Block) ([]api.Block, api.Errno) {
	ahead, joins := bordersByWords(a)
	behind, join := bordersByWords(b)
	if !joins || !join || ahead[len(ahead)-1].r != behind[len(behind)-1].s {
		return nil, api.ErrArg
	}
	var met []pair
	for _, x := range ahead {
		for _, y := range behind {
			if x.r == y.s {
				met = append(met, pair{x.s, y.r})
			}
		}
	}
	var l []api.Block
	for i := 1; i < len(met); i++ {
		l = append(l, api.Block{S0: met[i-1].s, S1: met[i].s, R0: met[i-1].r, R1: met[i].r})
	}
	return l, api.OK
}

// maker makes passes, texts and blocks, any of them.
type maker struct{ *rand.Rand }

func made(seed int64) maker { return maker{rand.New(rand.NewSource(seed))} }

func pick[T any](m maker, l ...T) T { return l[m.Intn(len(l))] }

// crowd is units at all edges; the strays among them make runes with one another.
var crowd = []int{0, 'a', 'b', 'c', 0x7F, 0x80, 0x7FF, 0x20AC, 0xD7FF, 0xE000, 0xFFFD, 0x10000, maxRune, firstRaw, 0x110082, 0x1100AC, 0x1100C3, 0x1100E2, 0x1100EF, 0x1100F0, lastRaw}

// some is a set of n of some units.
func (m maker) some(n int, of []int) api.Set {
	var s api.Set
	for i := range of {
		if m.Intn(len(of)-i) >= n {
			continue
		}
		n--
		if k := len(s); k > 0 && s[k-1].Hi == of[i]-1 {
			s[k-1].Hi = of[i]
		} else {
			s = append(s, api.Range{Lo: of[i], Hi: of[i]})
		}
	}
	return s
}

// row is one of mostly great sets, as rows of small ones fit nowhere.
func (m maker) row(n int) []api.Set {
	var l []api.Set
	for range n {
		l = append(l, pick(m, all, m.some(1+m.Intn(len(crowd)), crowd)))
	}
	return l
}

// many is a count that is mostly small, and at times the greatest one.
func (m maker) many(most int) int { return min(most, pick(m, 0, 0, 0, 0, 1, 1, 2, m.Intn(most+1))) }

func size(s api.Set) int {
	n := 0
	for _, r := range s {
		n += r.Hi - r.Lo + 1
	}
	return n
}

func (m maker) piece(key []api.Set, above []int) api.Piece {
	k := m.Intn(len(key))
	switch n := size(key[k]); {
	case m.Intn(3) == 0 && n <= len(above):
		return paired(k, m.some(n, above))
	case m.Intn(2) == 0:
		return again(k)
	}
	return unit(pick(m, above...))
}

// rule is one that begins with units of a stretch of the crowd, and mostly puts back what is above these.
func (m maker) rule() api.Rule {
	from := m.Intn(len(crowd) - 5)
	r := api.Rule{Begin: m.Intn(9) == 0, End: m.Intn(9) == 0, Key: row(m.some(1+m.Intn(4), crowd[from:from+4])), Ante: m.row(m.many(8)), Post: m.row(m.many(8))}
	r.Key = append(r.Key, m.row(m.many(7))...)
	above := crowd[from+4:]
	if m.Intn(5) == 0 {
		above = crowd
	}
	for range m.Intn(7) {
		r.Result = append(r.Result, m.piece(r.Key, above))
	}
	r.Cursor = pick(m, len(r.Result), m.Intn(len(r.Result)+1), m.Intn(len(r.Result)+1))
	return r
}

func (m maker) pass(most int) api.Pass {
	var p api.Pass
	for range m.Intn(most + 1) {
		p.Rules = append(p.Rules, m.rule())
	}
	return p
}

// fine is a pass that may be: rules that stand in the way are left out.
func (m maker) fine(most int) api.Pass {
	p := m.pass(most)
	for {
		n, e := weigh.Check(p)
		if e == api.OK {
			return p
		}
		p.Rules = slices.Delete(p.Rules, n, n+1)
	}
}

// text is one with strays, some of which make a rune.
func (m maker) text(most int) string {
	s := ""
	for range m.Intn(most + 1) {
		s += bytesOf(pick(m, crowd...))
	}
	return s
}

// blocks is some that join, over so many bytes of a source.
func (m maker) blocks(source int) []api.Block {
	var l []api.Block
	s, r := 0, 0
	for s < source {
		b := api.Block{S0: s, S1: min(source, s+1+m.Intn(4)), R0: r, R1: r + pick(m, 0, 0, 1, 1, 2, m.Intn(9))}
		l, s, r = append(l, b), b.S1, b.R1
	}
	return l
}

func TestBlocksAsTheWordsSay(t *testing.T) { // P13.1
	m := made(201)
	deep, empty, wide, improper := 0, 0, 0, 0
	for range 8000 {
		p := m.fine(pick(m, 5, 10, 30))
		for range 4 {
			text := m.text(30)
			x := goesByWords(p, text)
			if got := blocksOf(t, p, text); !slices.Equal(got, x.blocks) {
				t.Fatalf("%v over %q: %s; want %s", p, text, written(got), written(x.blocks))
			}
			if x.deep > 3 {
				deep++
			}
			for _, b := range x.blocks {
				if b.R0 == b.R1 {
					empty++
				}
				if len(unitsByWords(text[b.S0:b.S1])) > 8 {
					wide++
				}
				if b.R0 > 0 && !isBorder(x.result, b.R0) {
					improper++
				}
			}
		}
	}
	if deep < 2000 || empty < 5000 || wide < 60 || improper < 500 {
		t.Errorf("%d deep, %d empty, %d wide, %d within runes: the passes are too tame or too wild", deep, empty, wide, improper)
	}
}

func isBorder(s string, at int) bool {
	return at == len(s) || slices.ContainsFunc(unitsByWords(s), func(o origin) bool { return o.at == at })
}

// All short texts over some units, so that no text is too rare to come by chance.
func TestAllShortTexts(t *testing.T) { // P13.1
	few := []string{"a", "b", "\xC3", "\xA9", "é"}
	for _, rules := range []string{
		"", "a > ", "a > | b ; b > a", "ab > ba | ; é > | \\b{C3}\\b{A9}", "\\b{C3}\\b{A9} > x", "a { \\b{C3} > | \\b{A9} b ; b > ", "^ { . > ; b } $ > aa", "aa > | a ; [ab] } é > @1:[\\b{C3}\\b{A9}]", ".. > @2 @1", "a . > @2 | b ; b { b > é", "ab > é | a", "a > | bé ; é. > | @2",
	} {
		p := read(t, rules)
		texts := []string{""}
		for range 6 {
			var longer []string
			for _, text := range texts {
				if got, want := blocksOf(t, p, text), goesByWords(p, text).blocks; !slices.Equal(got, want) {
					t.Errorf("%s over %q: %s; want %s", rules, text, written(got), written(want))
				}
				for _, x := range few {
					longer = append(longer, text+x)
				}
			}
			texts = longer
		}
	}
}

func TestAnyPassesAndTheirErrors(t *testing.T) { // P13.1
	m := made(202)
	codes := map[api.Errno]int{}
	for range 3000 {
		p, text := m.pass(6), m.text(10)
		if len(p.Rules) > 0 && m.Intn(3) == 0 {
			r := &p.Rules[m.Intn(len(p.Rules))]
			pick(m, func() { r.Cursor = pick(m, -1, 17) }, func() { r.Key = nil }, func() { r.Key[0] = nil }, func() { r.Result = append(r.Result, api.Piece{}) })()
		}
		_, code := weigh.Check(p)
		codes[code]++
		if code != api.OK {
			refuses(t, p, text, code)
		} else if got, want := blocksOf(t, p, text), goesByWords(p, text).blocks; !slices.Equal(got, want) {
			t.Errorf("%v over %q: %s; want %s", p, text, written(got), written(want))
		}
	}
	if len(codes) < 7 || codes[api.OK] < 500 {
		t.Errorf("the passes are too tame or too wild: %v", codes)
	}
}

func TestPlacesAsTheWordsSay(t *testing.T) { // P13.2, P13.3
	m := made(203)
	for range 3000 {
		l := m.blocks(m.Intn(30))
		if len(l) > 0 && m.Intn(4) == 0 {
			b := &l[m.Intn(len(l))]
			*pick(m, &b.S0, &b.S1, &b.R0, &b.R1) += pick(m, -1, 1, -5, 5)
		}
		for at := -3; at < 130; at++ {
			places(t, l, at)
		}
	}
}

// places holds where a place is against what the words say, both ways.
func places(t *testing.T, l []api.Block, at int) {
	t.Helper()
	a, b := trace.To(l, at)
	if c, d := toByWords(l, at); a != c || b != d {
		t.Errorf("%.300s: To(%d): %d %d; want %d %d", written(l), at, a, b, c, d)
	}
	a, b = trace.From(l, at)
	if c, d := fromByWords(l, at); a != c || b != d {
		t.Errorf("%.300s: From(%d): %d %d; want %d %d", written(l), at, a, b, c, d)
	}
}

func TestThroughAsTheWordsSay(t *testing.T) { // P13.4
	m := made(204)
	fit, short := 0, 0
	for range 20000 {
		x := m.blocks(m.Intn(20))
		n := end(x).r
		if m.Intn(8) == 0 {
			n = m.Intn(20)
		}
		y := m.blocks(n)
		want, e := throughByWords(x, y)
		if got, code := trace.Through(x, y); code != e || !slices.Equal(got, want) {
			t.Fatalf("%s through %s: %s, %d; want %s, %d", written(x), written(y), written(got), code, written(want), e)
		}
		if e == api.OK {
			fit++
			if len(want) < len(x) {
				short++
			}
		}
	}
	if fit < 10000 || short < 5000 {
		t.Errorf("%d fit, of %d not all borders meet: the blocks are too tame or too wild", fit, short)
	}
}

// end is the last border of blocks that join.
func end(l []api.Block) pair {
	if len(l) == 0 {
		return pair{}
	}
	return pair{l[len(l)-1].S1, l[len(l)-1].R1}
}
