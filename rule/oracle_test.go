package rule_test

import (
	"fmt"
	"math"
	"math/rand"
	"slices"
	"testing"

	"respell/api"
	"respell/rule"
)

// What the chapter says, worked out anew: all errors that hold are told, sets are lists of units, and rules are the same if they are written the same.

func unitByWords(u int) bool {
	return u >= 0 && u < 0xD800 || u > 0xDFFF && u < 0x110000 || u >= 0x110080 && u <= 0x1100FF
}

// setByForm tells whether a row is a set.
func setByForm(s api.Set) bool {
	for i, r := range s {
		whole := r.Lo >= 0 && r.Hi < 0xD800 || r.Lo > 0xDFFF && r.Hi < 0x110000 || r.Lo >= 0x110080 && r.Hi <= 0x1100FF
		if !whole || r.Lo > r.Hi || i > 0 && r.Lo < s[i-1].Hi+2 {
			return false
		}
	}
	return len(s) <= 512
}

// units is all units of a set, one by one; none of what is no set.
func units(s api.Set) []int {
	if !setByForm(s) {
		return nil
	}
	n := 0
	for _, r := range s {
		n += r.Hi - r.Lo + 1
	}
	l := make([]int, 0, n)
	for _, r := range s {
		for u := r.Lo; u <= r.Hi; u++ {
			l = append(l, u)
		}
	}
	return l
}

// told is errors that hold, in the order of the table.
type told []api.Errno

func (l *told) add(e api.Errno, holds ...bool) {
	if slices.Contains(holds, true) {
		*l = append(*l, e)
	}
}

func (l told) first() api.Errno { return append(l, api.OK)[0] }

func errorsByWords(r api.Rule) told {
	var l told
	l.add(api.ErrRuleKey, len(r.Key) == 0, len(r.Key) > 8)
	l.add(api.ErrRuleMany, len(r.Ante) > 8, len(r.Post) > 8, len(r.Result) > 16)
	for _, s := range slices.Concat(r.Ante, r.Key, r.Post) {
		l.add(api.ErrRuleSet, len(units(s)) == 0)
	}
	for _, p := range r.Result {
		wrong, none := false, p.Key < 0 || p.Key >= len(r.Key)
		switch p.Kind {
		case 1:
			wrong, none = !unitByWords(p.Unit) || p.Key != 0 || len(p.To) > 0, false
		case 2:
			wrong = p.Unit != 0 || len(p.To) > 0
		case 3:
			wrong = p.Unit != 0
		default:
			wrong, none = true, false
		}
		l.add(api.ErrRulePiece, wrong)
		l.add(api.ErrRuleCopy, none)
		if p.Kind == 3 && !none {
			l.add(api.ErrRulePair, !setByForm(p.To), len(units(p.To)) != len(units(r.Key[p.Key])))
		}
	}
	l.add(api.ErrRuleCursor, r.Cursor < 0, r.Cursor > len(r.Result))
	return l
}

func laysByWords(r api.Rule, key []int) (done, back []int) {
	if errorsByWords(r).first() != api.OK || len(key) != len(r.Key) {
		return nil, nil
	}
	for i, u := range key {
		if !slices.Contains(units(r.Key[i]), u) {
			return nil, nil
		}
	}
	for i, p := range r.Result {
		u := map[int]int{1: p.Unit, 2: key[p.Key], 3: key[p.Key]}[p.Kind]
		if p.Kind == 3 {
			u = units(p.To)[slices.Index(units(r.Key[p.Key]), u)]
		}
		if i < r.Cursor {
			done = append(done, u)
		} else {
			back = append(back, u)
		}
	}
	return done, back
}

// sameByWords: a list that is nil is written as an empty one is.
func sameByWords(x, y api.Rule) bool { return fmt.Sprint(x) == fmt.Sprint(y) }

// copyOf is a rule that shares no list with the other one.
func copyOf(r api.Rule) api.Rule {
	for _, l := range []*[]api.Set{&r.Ante, &r.Key, &r.Post} {
		*l = slices.Clone(*l)
		for i, s := range *l {
			(*l)[i] = slices.Clone(s)
		}
	}
	r.Result = slices.Clone(r.Result)
	for i, p := range r.Result {
		r.Result[i].To = slices.Clone(p.To)
	}
	return r
}

// maker makes rules, any of them; of wrong it is one of so many.
type maker struct {
	*rand.Rand
	wrong int
}

func (m maker) errs() bool { return m.wrong > 0 && m.Intn(m.wrong) == 0 }

func pick[T any](m maker, l ...T) T { return l[m.Intn(len(l))] }

// crowd is units of which some stand side by side, at all edges.
var crowd = []int{0, 1, 'a', 'b', 'c', 'd', 'e', 'f', 'x', 'y', 'z', 0x7FF, 0x800, 0xD7FE, 0xD7FF, 0xE000, 0xE001, 0xFFFD, 0xFFFE, maxRune - 1, maxRune, firstRaw, firstRaw + 1, 0x1100C3, lastRaw - 1, lastRaw}

// sized is a set of n units.
func (m maker) sized(n int) api.Set {
	l := slices.Clone(crowd)
	m.Shuffle(len(l), func(i, j int) { l[i], l[j] = l[j], l[i] })
	l = l[:min(n, len(l))]
	slices.Sort(l)
	var s api.Set
	for _, u := range l {
		if n := len(s); n > 0 && s[n-1].Hi == u-1 {
			s[n-1].Hi = u
		} else {
			s = append(s, api.Range{Lo: u, Hi: u})
		}
	}
	return s
}

func (m maker) set() api.Set {
	if m.errs() {
		return pick(m, badSets...)
	}
	if m.Intn(1000) == 0 {
		return pick(m, goodSets...)
	}
	return m.sized(1 + m.Intn(6))
}

func (m maker) row(least, most int) []api.Set {
	n := least + m.Intn(most-least+1)
	if m.errs() {
		n = pick(m, 0, 9, 10)
	}
	var l []api.Set
	for range n {
		l = append(l, m.set())
	}
	return l
}

func (m maker) piece(key []api.Set) api.Piece {
	p := api.Piece{Kind: pick(m, 1, 2, 3)}
	if len(key) == 0 || p.Kind == 1 {
		p.Kind, p.Unit = 1, pick(m, crowd...)
	} else {
		p.Key = m.Intn(len(key))
	}
	if p.Kind == 3 {
		p.To = m.partner(key[p.Key])
	}
	if m.errs() {
		p.Kind = pick(m, 0, 1, 2, 3, 4, -1)
	}
	if m.errs() {
		p.Unit = pick(m, noUnits...)
	}
	if m.errs() {
		p.Key = pick(m, -1, 0, 1, len(key)-1, len(key), len(key)+1, math.MinInt, math.MaxInt)
	}
	if m.errs() {
		p.To = m.set()
	}
	return p
}

// partner is a set of as many units.
func (m maker) partner(s api.Set) api.Set {
	n := len(units(s))
	if n > len(crowd) {
		return slices.Clone(s)
	}
	return m.sized(n)
}

func (m maker) rule() api.Rule {
	r := api.Rule{Begin: m.Intn(2) == 0, Ante: m.row(0, 3), Key: m.row(1, 4), Post: m.row(0, 3), End: m.Intn(2) == 0}
	n := m.Intn(6)
	if m.errs() {
		n = pick(m, 15, 16, 17)
	}
	for range n {
		r.Result = append(r.Result, m.piece(r.Key))
	}
	r.Cursor = m.Intn(n + 1)
	if m.errs() {
		r.Cursor = pick(m, -1, n+1, math.MinInt, math.MaxInt)
	}
	return r
}

// key is a row of units that stands at sets, or nearly does.
func (m maker) key(row []api.Set) []int {
	var l []int
	for _, s := range row {
		u := pick(m, crowd...)
		if all := units(s); len(all) > 0 && !m.errs() {
			u = pick(m, all...)
		}
		l = append(l, u)
	}
	switch {
	case m.errs():
		return append(l, pick(m, crowd...))
	case m.errs() && len(l) > 0:
		return l[1:]
	}
	return l
}

func TestRulesAsTheWordsSay(t *testing.T) { // P7.1, P7.3
	codes := map[api.Errno]int{}
	laid := 0
	for _, wrong := range []int{0, 200, 50, 10, 3} {
		m := maker{rand.New(rand.NewSource(71)), wrong}
		for range 3000 {
			r := m.rule()
			want := errorsByWords(r).first()
			codes[want]++
			checks(t, r, want)
			key := m.key(r.Key)
			done, back := laysByWords(r, key)
			laid += len(done) + len(back)
			lays(t, r, key, done, back)
		}
	}
	for e := api.ErrRuleKey; e <= api.ErrRuleCursor; e++ {
		if codes[e] < 30 {
			t.Errorf("%d only %d times: the rules are too tame", e, codes[e])
		}
	}
	if codes[api.OK] < 3000 || laid < 3000 {
		t.Errorf("%d rules may be, %d units were laid: the rules are too wild", codes[api.OK], laid)
	}
}

func TestPassesAsTheWordsSay(t *testing.T) { // P7.2
	codes := map[api.Errno]int{}
	for _, wrong := range []int{0, 500, 100} {
		m := maker{rand.New(rand.NewSource(72)), wrong}
		for range 300 {
			var l []api.Rule
			for range m.Intn(12) {
				l = append(l, m.rule())
			}
			n, code := 0, api.OK
			for i, r := range l {
				if code = errorsByWords(r).first(); code != api.OK {
					n = i
					break
				}
			}
			codes[code]++
			allIs(t, l, n, code)
		}
	}
	if len(codes) < 8 || codes[api.OK] < 300 {
		t.Errorf("the passes are too tame or too wild: %v", codes)
	}
}

func TestSameAsTheWordsSay(t *testing.T) { // P7.4
	m := maker{rand.New(rand.NewSource(74)), 10}
	for range 3000 {
		x := m.rule()
		y := copyOf(x)
		same(t, x, y, true)
		z := m.rule()
		same(t, x, z, sameByWords(x, z))
		// One field of another rule.
		switch m.Intn(7) {
		case 0:
			y.Begin = z.Begin
		case 1:
			y.Ante = z.Ante
		case 2:
			y.Key = z.Key
		case 3:
			y.Post = z.Post
		case 4:
			y.End = z.End
		case 5:
			y.Result = z.Result
		case 6:
			y.Cursor = z.Cursor
		}
		same(t, x, y, sameByWords(x, y))
		if rule.Same(x, y) && rule.Check(x) != rule.Check(y) {
			t.Errorf("%v: the same rule may and may not be", x)
		}
	}
}
