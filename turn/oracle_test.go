package turn_test

import (
	"math"
	"math/rand"
	"slices"
	"testing"
	"unicode/utf8"

	"respell/api"
	"respell/turn"
	"respell/weigh"
)

// What the chapter says, worked out anew: range by range, rule by rule, unit by unit.

func has(s api.Set, u int) bool {
	return slices.ContainsFunc(s, func(r api.Range) bool { return r.Lo <= u && u <= r.Hi })
}

func size(s api.Set) int {
	n := 0
	for _, r := range s {
		n += r.Hi - r.Lo + 1
	}
	return n
}

func meetByWords(s, t api.Set) bool {
	for _, x := range s {
		for _, y := range t {
			if x.Lo <= y.Hi && y.Lo <= x.Hi {
				return true
			}
		}
	}
	return false
}

func rowsMeet(k, l []api.Set) bool {
	for i := range k {
		if !meetByWords(k[i], l[i]) {
			return false
		}
	}
	return true
}

func imageByWords(r api.Rule) []api.Set {
	var l []api.Set
	for _, x := range r.Result {
		s := of(x.Unit, x.Unit)
		if x.Kind == api.PCopy {
			s = r.Key[x.Key]
		} else if x.Kind == api.PPair {
			s = x.To
		}
		l = append(l, s)
	}
	return l
}

// spokenOf tells by which pieces a place of a rule's key is spoken of.
func spokenOf(r api.Rule, place int) []int {
	var l []int
	for n, x := range r.Result {
		if (x.Kind == api.PCopy || x.Kind == api.PPair) && x.Key == place {
			l = append(l, n)
		}
	}
	return l
}

func ruleByWords(p api.Pass, r api.Rule) api.Errno {
	image := imageByWords(r)
	stray := slices.ContainsFunc(image, func(s api.Set) bool { return meetByWords(s, of(firstRaw, lastRaw)) })
	if len(r.Result) == 0 || r.Cursor < len(r.Result) || stray {
		return api.ErrTurnResult
	}
	if len(r.Result) > 8 {
		return api.ErrTurnMany
	}
	for place, s := range r.Key {
		if size(s) > 1 && len(spokenOf(r, place)) != 1 {
			return api.ErrTurnTwice
		}
	}
	for _, near := range slices.Concat(r.Ante, r.Post) {
		for _, other := range p.Rules {
			for _, s := range slices.Concat(other.Key, imageByWords(other)) {
				if meetByWords(near, s) {
					return api.ErrTurnContext
				}
			}
		}
	}
	return api.OK
}

func sameSets(k, l []api.Set) bool {
	return slices.EqualFunc(k, l, func(s, t api.Set) bool { return slices.Equal(s, t) })
}

func samePieces(k, l []api.Piece) bool {
	return slices.EqualFunc(k, l, func(x, y api.Piece) bool {
		return x.Kind == y.Kind && x.Unit == y.Unit && x.Key == y.Key && slices.Equal(x.To, y.To)
	})
}

func pairByWords(r, s api.Rule) api.Errno {
	k, l := imageByWords(r), imageByWords(s)
	n := min(len(k), len(l))
	if len(k) == len(l) && rowsMeet(k, l) && !(sameSets(r.Key, s.Key) && samePieces(r.Result, s.Result)) {
		return api.ErrTurnTwice
	}
	if len(k) != len(l) && rowsMeet(k[:n], l[:n]) {
		return api.ErrTurnPrefix
	}
	return api.OK
}

// errorByWords is what both calls answer of a pass that can't be turned.
func errorByWords(p api.Pass) (int, api.Errno) {
	if n, e := weigh.Check(p); e != api.OK {
		return n, e
	}
	for n, r := range p.Rules {
		if e := ruleByWords(p, r); e != api.OK {
			return n, e
		}
	}
	for j, r := range p.Rules {
		for _, ahead := range p.Rules[:j] {
			if e := pairByWords(ahead, r); e != api.OK {
				return j, e
			}
		}
	}
	return 0, api.OK
}

func turnByWords(p api.Pass) api.Pass {
	var turned api.Pass
	for _, r := range p.Rules {
		back := api.Rule{Begin: r.Begin, Ante: r.Ante, Key: imageByWords(r), Post: r.Post, End: r.End, Cursor: len(r.Key)}
		for place, s := range r.Key {
			x := unit(s[0].Lo)
			if size(s) > 1 {
				n := spokenOf(r, place)[0]
				x = again(n)
				if r.Result[n].Kind == api.PPair {
					x = paired(n, s)
				}
			}
			back.Result = append(back.Result, x)
		}
		turned.Rules = append(turned.Rules, back)
	}
	return turned
}

func mayStay(p api.Pass, u int) bool {
	for _, r := range p.Rules {
		contexts := len(r.Ante) > 0 || len(r.Post) > 0 || r.Begin || r.End
		if !contexts && len(r.Key) == 1 && has(r.Key[0], u) {
			return false
		}
	}
	return true
}

func overByWords(p api.Pass, u int) bool {
	if !has(all, u) || !mayStay(p, u) {
		return has(all, u)
	}
	return !slices.ContainsFunc(p.Rules, func(r api.Rule) bool { return has(imageByWords(r)[0], u) })
}

// edges are numbers of which each is in the same sets of a pass as all numbers from it to the next one, and as many units or none.
func edges(p api.Pass) []int {
	l := []int{0, 0xD800, 0xE000, maxRune + 1, firstRaw, lastRaw + 1}
	for _, r := range p.Rules {
		for _, s := range append(imageByWords(r), r.Key...) {
			for _, x := range s {
				l = append(l, x.Lo, x.Hi+1)
			}
		}
	}
	slices.Sort(l)
	return slices.Compact(l)
}

// overSet is the set of the units over which a pass that can be turned is undone; it may have more ranges than a set may have.
func overSet(p api.Pass) api.Set {
	var s api.Set
	l := edges(p)
	for i, u := range l[:len(l)-1] {
		if !overByWords(p, u) {
			continue
		}
		if n := len(s); n > 0 && s[n-1].Hi == u-1 {
			s[n-1].Hi = l[i+1] - 1
		} else {
			s = append(s, api.Range{Lo: u, Hi: l[i+1] - 1})
		}
	}
	return s
}

// samePass tells whether two passes are the same in all fields.
func samePass(p, q api.Pass) bool {
	return slices.EqualFunc(p.Rules, q.Rules, func(r, s api.Rule) bool {
		return r.Begin == s.Begin && r.End == s.End && r.Cursor == s.Cursor && sameSets(r.Ante, s.Ante) && sameSets(r.Key, s.Key) && sameSets(r.Post, s.Post) && samePieces(r.Result, s.Result)
	})
}

// told holds what both calls answer of a pass against the words, and is what Turn answers.
func told(t *testing.T, p api.Pass) (api.Pass, int, api.Errno) {
	t.Helper()
	turned, n, e := turn.Turn(p)
	over, m, f := turn.Over(p)
	wantN, want := errorByWords(p)
	if n != wantN || e != want {
		t.Fatalf("%s: %d, %d; want %d, %d", brief(p), n, e, wantN, want)
	}
	if e != api.OK {
		if m != n || f != e {
			t.Fatalf("%s: Over tells %d, %d, not %d, %d", brief(p), m, f, n, e)
		}
		if turned.Rules != nil || over != nil {
			t.Fatalf("%s: beside an error %s, %s", brief(p), brief(turned), shown(over))
		}
		return turned, n, e
	}
	if back := turnByWords(p); !samePass(turned, back) {
		t.Fatalf("%s: %s; want %s", brief(p), brief(turned), brief(back))
	}
	set := overSet(p)
	if len(set) > 512 {
		set, m, f = nil, m-len(p.Rules), f-api.ErrTurnMany
	}
	if !slices.Equal(over, set) || m != 0 || f != api.OK {
		t.Fatalf("%s: Over tells %s; want %s; the number is %d too great, and the error %d", brief(p), shown(over), shown(set), m, f)
	}
	return turned, n, e
}

// maker makes passes and texts. Of its rules one in wrong can't be turned, for some reason; of these rules one in odd may not be at all; 0: none.
type maker struct {
	*rand.Rand
	wrong, odd int
}

func made(seed int64, wrong, odd int) maker {
	return maker{rand.New(rand.NewSource(seed)), wrong, odd}
}

func (m maker) chance(n int) bool { return n > 0 && m.Intn(n) == 0 }

func pick[T any](m maker, l ...T) T { return l[m.Intn(len(l))] }

// loud is the units of keys and images, and quiet those of contexts. Both have units at all edges, and strays that make runes with one another.
var (
	loud  = []int{'a', 'b', 'c', 'd', 'p', 'q', 'r', 'x', 'y', 'z', 0xE9, 0x7FF, 0x20AC, 0xD7FF, 0xE000, 0x10000, maxRune, firstRaw, 0x1100A9, 0x1100C3, 0x1100E2, lastRaw}
	quiet = []int{0, '1', '2', '3', 0x7F, 0x80, 0x800, 0xFFFD, 0x10001, maxRune - 1, 0x110082, 0x1100AC, 0x1100F0}
)

// few is n of some units, rising.
func (m maker) few(n int, of []int) []int {
	l := slices.Clone(of)
	m.Shuffle(len(l), func(i, j int) { l[i], l[j] = l[j], l[i] })
	l = l[:min(n, len(l))]
	slices.Sort(l)
	return l
}

// setOf is a set of units that rise.
func setOf(l []int) api.Set {
	var s api.Set
	for _, u := range l {
		if n := len(s); n > 0 && s[n-1].Hi == u-1 {
			s[n-1].Hi = u
		} else {
			s = append(s, api.Range{Lo: u, Hi: u})
		}
	}
	return s
}

func (m maker) some(n int, of []int) api.Set { return setOf(m.few(n, of)) }

func (m maker) row(most int, of []int) []api.Set {
	var l []api.Set
	for range min(most, pick(m, 0, 0, 0, 1, 1, 2, m.Intn(most+1))) {
		l = append(l, m.some(1+m.Intn(len(of)), of))
	}
	return l
}

// runes is the first units of some, up to the strays.
func runes(l []int) []int {
	n, _ := slices.BinarySearch(l, firstRaw)
	return l[:n]
}

// result is pieces that speak of each place of a key as may be, and of units beside these.
func (m maker) result(key []api.Set) []api.Piece {
	var l []api.Piece
	for place, s := range key {
		n := size(s)
		for range pick(m, 1, min(n, 2)-1) {
			if to := runes(loud); m.Intn(2) == 0 && n <= len(to) || s[len(s)-1].Hi > maxRune {
				l = append(l, paired(place, m.some(n, to)))
			} else {
				l = append(l, again(place))
			}
		}
		// Of a place of one unit none, one or two pieces may speak.
		if n == 1 && s[0].Lo <= maxRune && m.Intn(3) == 0 {
			l = append(l, again(place))
		}
	}
	for range pick(m, 0, 0, 1, 1, 2, 3) {
		l = append(l, unit(pick(m, runes(loud)...)))
	}
	if len(l) == 0 {
		l = append(l, unit(pick(m, runes(loud)...)))
	}
	m.Shuffle(len(l), func(i, j int) { l[i], l[j] = l[j], l[i] })
	return l[:min(len(l), 8)]
}

// rule is one that can be turned, as far as that is asked of it alone.
func (m maker) rule() api.Rule {
	var r api.Rule
	for range pick(m, 1, 1, 1, 2, 2, 3, 1+m.Intn(8)) {
		r.Key = append(r.Key, m.some(pick(m, 1, 1, 2, 3, 6), loud))
	}
	r.Ante, r.Post = m.row(8, quiet), m.row(8, quiet)
	r.Begin, r.End = m.Intn(8) == 0, m.Intn(8) == 0
	r.Result = m.result(r.Key)
	r.Cursor = len(r.Result)
	return r
}

// spoilt is a rule of which something is not as it must be.
func (m maker) spoilt(r api.Rule) api.Rule {
	any := slices.Concat(runes(loud), quiet[:3])
	slices.Sort(any)
	switch m.Intn(9) {
	case 0:
		r.Result, r.Cursor = nil, 0
	case 1:
		r.Cursor = m.Intn(r.Cursor)
	case 2:
		r.Result[m.Intn(len(r.Result))] = unit(pick(m, loud...))
	case 3:
		r.Result[m.Intn(len(r.Result))] = again(m.Intn(len(r.Key)))
	case 4:
		k := m.Intn(len(r.Key))
		r.Result[m.Intn(len(r.Result))] = paired(k, m.some(size(r.Key[k]), loud))
	case 5:
		r.Result = append(r.Result, slices.Repeat(pieces(unit('q')), m.Intn(9))...)
		r.Cursor = len(r.Result)
	case 6:
		r.Ante = m.row(3, any)
	case 7:
		r.Post = m.row(3, any)
	case 8:
		r.Key[m.Intn(len(r.Key))] = m.some(1+m.Intn(4), any)
	}
	if m.chance(m.odd) {
		r.Cursor = pick(m, -1, 99, math.MinInt, math.MaxInt)
	}
	if m.chance(m.odd) {
		r.Key[m.Intn(len(r.Key))] = pick(m, nil, of('b', 'a'), of(0xD7FF, 0xE000))
	}
	return r
}

func (m maker) pass(most int) api.Pass {
	var p api.Pass
	for range m.Intn(most + 1) {
		r := m.rule()
		if n := len(p.Rules); n > 0 && m.Intn(6) == 0 {
			// The same, elsewhere.
			r.Key, r.Result, r.Cursor = p.Rules[n-1].Key, p.Rules[n-1].Result, p.Rules[n-1].Cursor
		} else if m.chance(m.wrong) {
			r = m.spoilt(r)
		}
		p.Rules = append(p.Rules, r)
	}
	return p
}

// fine is a pass that can be turned: rules that stand in the way are left out.
func (m maker) fine(most int) api.Pass {
	p := m.pass(most)
	for {
		n, e := errorByWords(p)
		if e == api.OK {
			return p
		}
		p.Rules = slices.Delete(p.Rules, n, n+1)
	}
}

func (m maker) unitOf(s api.Set) int {
	r := pick(m, s...)
	return r.Lo + m.Intn(r.Hi-r.Lo+1)
}

func bytesOf(l ...int) string {
	var b []byte
	for _, u := range l {
		if u >= 0x110000 {
			b = append(b, byte(u-0x110000))
		} else {
			b = utf8.AppendRune(b, rune(u))
		}
	}
	return string(b)
}

func unitsByWords(s string) []int {
	var l []int
	for at := 0; at < len(s); {
		r, n := utf8.DecodeRuneInString(s[at:])
		u := int(r)
		if r == utf8.RuneError && n == 1 {
			u = 0x110000 + int(s[at])
		}
		l, at = append(l, u), at+n
	}
	return l
}

// text is one of some units that often has what a rule of a pass wants. It may be of other units, too, where strays come together.
func (m maker) text(p api.Pass, most int, of []int) string {
	var l []int
	for n := m.Intn(most + 1); len(l) < n; {
		if len(p.Rules) == 0 || m.Intn(3) == 0 {
			l = append(l, pick(m, of...))
			continue
		}
		r := pick(m, p.Rules...)
		for _, s := range slices.Concat(r.Ante, r.Key, r.Post) {
			l = append(l, m.unitOf(s))
		}
	}
	return bytesOf(slices.DeleteFunc(l, func(u int) bool { return !slices.Contains(of, u) })...)
}

func TestAnyPasses(t *testing.T) { // P19.1, P19.2
	codes, ats := map[api.Errno]int{}, map[int]int{}
	for _, m := range []maker{made(191, 0, 0), made(192, 3, 0), made(193, 1, 0), made(194, 2, 2)} {
		for range 4000 {
			_, n, e := told(t, m.pass(pick(m, 1, 2, 4, 10)))
			codes[e]++
			if e != api.OK {
				ats[n]++
			}
		}
	}
	for _, e := range []api.Errno{api.OK, api.ErrTurnResult, api.ErrTurnMany, api.ErrTurnTwice, api.ErrTurnContext, api.ErrTurnPrefix} {
		if codes[e] < 150 {
			t.Errorf("%d passes with error %d: %v", codes[e], e, codes)
		}
	}
	if len(codes) < 9 || ats[0] < 1000 || ats[1] < 1000 || ats[3] < 200 {
		t.Errorf("the passes are too tame or too wild: %v at %v", codes, ats)
	}
}

func TestAnyFinePasses(t *testing.T) { // P19.1, P19.2
	rules, all, some, many := 0, 0, 0, 0
	for _, m := range []maker{made(195, 0, 0), made(196, 3, 0)} {
		for range 4000 {
			p := m.fine(pick(m, 3, 6, 20))
			told(t, p)
			rules += len(p.Rules)
			switch n := len(overSet(p)); {
			case n == 3:
				all++
			case n < 7:
				some++
			default:
				many++
			}
		}
	}
	if rules < 16000 || all < 800 || some < 1000 || many < 1000 {
		t.Errorf("%d rules; sets of %d passes are all units, of %d less some ranges, of %d less many: too tame or too wild", rules, all, some, many)
	}
}

// All pairs of small rules, so that none is too rare to come by chance.
func TestAllPairsOfSmallRules(t *testing.T) { // P19.1, P19.2
	var l []api.Rule
	for _, key := range [][]api.Set{row(a), row(of('b', 'b')), row(of('a', 'b')), row(a, of('b', 'b')), row(of('a', 'b'), a), row(of(firstRaw, firstRaw))} {
		for _, result := range [][]api.Piece{pieces(unit('a')), pieces(again(0)), pieces(unit('b')), pieces(unit('x')), pieces(again(0), unit('x')), pieces(unit('x'), again(0)), pieces(unit('x'), unit('a')), pieces(unit('x'), unit('b'), unit('x')), pieces(paired(0, of('x', 'y'))), pieces(paired(0, of('a', 'b'))), pieces(paired(0, of('y', 'y')), unit('x')), nil} {
			for near := range 5 {
				r := api.Rule{Key: key, Result: result, Cursor: len(result)}
				switch near {
				case 1:
					r.Ante = row(of('1', '1'))
				case 2:
					r.Post = row(of('x', 'x'))
				case 3:
					r.Begin = true
				case 4:
					r.End = true
				}
				if _, e := weigh.Check(rules(r)); e == api.OK {
					l = append(l, r)
				}
			}
		}
	}
	codes := map[api.Errno]int{}
	for _, r := range l {
		told(t, rules(r))
		for _, s := range l {
			_, _, e := told(t, rules(r, s))
			codes[e]++
		}
	}
	if codes[api.OK] < 1000 || codes[api.ErrTurnTwice] < 1000 || codes[api.ErrTurnPrefix] < 1000 || codes[api.ErrTurnContext] < 1000 || codes[api.ErrTurnResult] < 1000 {
		t.Errorf("%d rules: %v", len(l), codes)
	}
}
