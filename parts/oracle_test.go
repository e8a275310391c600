package parts_test

import (
	"math"
	"math/rand"
	"slices"
	"strings"
	"testing"

	"respell/api"
	"respell/pass"
	"respell/utf"
	"respell/weigh"
)

// Drawn passes and texts, held against what pass makes of these.

// maker makes passes and texts, any of them. Of what a rule puts back, one in ring is a unit that may stand at its key's beginning; of what may not be at all, it makes one of wrong; 0: none. The rules of a pass look at the loud ones of all units alone, but for some.
type maker struct {
	*rand.Rand
	ring, wrong int
	loud        *[]int
}

func made(seed int64, ring, wrong int) maker {
	return maker{rand.New(rand.NewSource(seed)), ring, wrong, &[]int{}}
}

func (m maker) chance(n int) bool { return n > 0 && m.Intn(n) == 0 }

func pick[T any](m maker, l ...T) T { return l[m.Intn(len(l))] }

// crowd is units at all edges; the strays among them make runes with one another.
var crowd = []int{0, ' ', 'a', 'b', 'c', 0x7F, 0x80, 0xE9, 0x7FF, 0x20AC, 0xD7FF, 0xE000, 0xFFFD, 0x10000, maxRune, firstRaw, 0x110082, 0x1100A9, 0x1100AC, 0x1100C3, 0x1100E2, 0x1100EF, 0x1100F0, lastRaw}

// few is n of some units, rising.
func (m maker) few(n int, of []int) []int {
	l := slices.Clone(of)
	m.Shuffle(len(l), func(i, j int) { l[i], l[j] = l[j], l[i] })
	l = l[:min(n, len(l))]
	slices.Sort(l)
	return l
}

// some is a set of n of some units.
func (m maker) some(n int, of []int) api.Set {
	var s api.Set
	for _, u := range m.few(n, of) {
		if n := len(s); n > 0 && s[n-1].Hi == u-1 {
			s[n-1].Hi = u
		} else {
			s = append(s, api.Range{Lo: u, Hi: u})
		}
	}
	return s
}

// row is one of mostly great sets, as rows of small ones fit nowhere.
func (m maker) row(n int) []api.Set {
	var l []api.Set
	for range n {
		l = append(l, m.some(pick(m, 1+m.Intn(len(*m.loud)), len(*m.loud)), *m.loud))
	}
	return l
}

// many is a count that is mostly small, and at times the greatest one.
func (m maker) many(most int) int {
	return min(most, pick(m, 0, 0, 0, 0, 1, 1, 2, m.Intn(most+1)))
}

func size(s api.Set) int {
	n := 0
	for _, r := range s {
		n += r.Hi - r.Lo + 1
	}
	return n
}

func (m maker) piece(key []api.Set, above []int) api.Piece {
	if m.chance(m.ring) {
		above = crowd
	}
	k := m.Intn(len(key))
	switch n := size(key[k]); {
	case m.Intn(3) == 0 && n <= len(above):
		return paired(k, m.some(n, above))
	case m.Intn(2) == 0:
		return again(k)
	}
	return unit(pick(m, above...))
}

// rule is one that begins with a few loud units, and mostly puts back what is above these, loud or not.
func (m maker) rule() api.Rule {
	first := m.few(1+m.Intn(3), *m.loud)
	r := api.Rule{Begin: m.Intn(6) == 0, End: m.Intn(6) == 0, Key: row(m.some(3, first)), Ante: m.row(m.many(8)), Post: m.row(m.many(8))}
	r.Key = append(r.Key, m.row(m.many(7))...)
	above := crowd[slices.Index(crowd, first[len(first)-1])+1:]
	if len(above) == 0 {
		above = crowd
	}
	for range m.Intn(6) {
		r.Result = append(r.Result, m.piece(r.Key, above))
	}
	r.Cursor = pick(m, len(r.Result), m.Intn(len(r.Result)+1), m.Intn(len(r.Result)+1))
	if m.chance(3 * m.wrong) {
		r.Cursor = pick(m, -1, 99, math.MinInt, math.MaxInt)
	}
	if m.chance(3 * m.wrong) {
		r.Key[m.Intn(len(r.Key))] = pick(m, nil, of('b', 'a'), of(0xD7FF, 0xE000))
	}
	return r
}

func (m maker) pass(most int) api.Pass {
	*m.loud = m.few(len(crowd)-pick(m, 0, 1, 2, 5, 12, 18, 22), crowd)
	var p api.Pass
	for range m.Intn(most + 1) {
		p.Rules = append(p.Rules, m.rule())
	}
	return p
}

// fine is a pass that may be: rules that stand in the way are left out.
func (m maker) fine(most int) api.Pass {
	p := m.pass(most)
	for {
		n, e := weigh.Check(p)
		if e == api.OK {
			return p
		}
		p.Rules = slices.Delete(p.Rules, n, n+1)
	}
}

// text is one with strays, some of which make a rune. Some have loud units alone, or nearly so.
func (m maker) text(most int) string {
	var l []int
	any := pick(m, 1, 2, 10, 1000)
	for range m.Intn(most + 1) {
		if m.Intn(any) == 0 {
			l = append(l, pick(m, crowd...))
		} else {
			l = append(l, pick(m, *m.loud...))
		}
	}
	s, _ := utf.Join(l)
	return s
}

// bare is what a text would become, if its parts had no unit in common.
func bare(t *testing.T, p api.Pass, s string, places []int) string {
	var l []string
	from := 0
	for _, at := range append(slices.Clone(places), len(s)) {
		made, e := pass.Run(p, s[from:at])
		if e != api.OK {
			t.Fatal(e)
		}
		l = append(l, made)
		from = at
	}
	return strings.Join(l, "")
}

func TestRunsTellWhatPassDoes(t *testing.T) { // P17.1, P17.2, P17.3, W2
	long(t)
	const manyPlaces = 16
	none, one, some, lot, put, fit, seen := 0, 0, 0, 0, 0, 0, 0
	for _, m := range []maker{made(175, 0, 0), made(176, 5, 0), made(177, 1, 0)} {
		for range 500 {
			p := m.fine(pick(m, 3, 6, 20))
			for range 4 {
				s := m.text(pick(m, 10, 40, 40, 200))
				places := safe(t, p, s)
				want := same(t, p, s, pick(m, everyone, m.few(3, everyone), m.few(3, everyone))...)
				switch n := len(places); {
				case n == 0:
					none++
				case n == 1:
					one++
				case n < manyPlaces:
					some++
				default:
					lot++
				}
				if bare(t, p, s, places) != want {
					seen++
				}
				steps, _ := pass.Steps(p, s)
				for x := range steps {
					put += x.Back
					if x.Rule >= 0 {
						fit++
					}
				}
			}
		}
	}
	if none < 1000 || one < 250 || some < 1000 || lot < 500 || put < 5000 || fit < 20000 || seen < 150 {
		t.Errorf("texts: %d without a place, %d with one, %d with some, %d with many; %d put back, %d by a rule, %d parts that see their ends: the passes are too tame or too wild", none, one, some, lot, put, fit, seen)
	}
}

func TestLongTextsTellWhatPassDoes(t *testing.T) { // P17.2, P17.3
	m := made(178, 5, 0)
	cut := 0
	for range 60 {
		p, s := m.fine(pick(m, 5, 30)), m.text(4000)
		cut += len(safe(t, p, s))
		same(t, p, s, 1, 2, 3, 1+m.Intn(16), 16)
	}
	if cut < 10000 {
		t.Errorf("only %d places", cut)
	}
}

// All short texts over some units, so that none is too rare to come by chance.
func TestAllShortTexts(t *testing.T) { // P17.1, P17.2
	long(t)
	few := []string{"a", " ", "\xC3", "\xA9", "é"}
	for _, rules := range []string{
		"", "a > ", "a > | b ; b > a", "^ { a > A ; a } $ > Z", "\\b{C3}\\b{A9} > x", "a { \\b{C3} > | \\b{A9} b ; b > ", "a } é > x ; é { a > y", "aa > | a ; [ab] } é > @1:[\\b{C3}\\b{A9}]", "^ { é > ; é } $ > aa", "a . > @2 | b",
	} {
		p := read(t, rules)
		texts := []string{""}
		for range 6 {
			var longer []string
			for _, text := range texts {
				safe(t, p, text)
				same(t, p, text, 1+len(longer)%16)
				for _, x := range few {
					longer = append(longer, text+x)
				}
			}
			texts = longer
		}
	}
}

// Any bytes whatever.
func TestAnyBytes(t *testing.T) { // P17.1, P17.2, R1
	m := made(179, 4, 0)
	for n := range 1500 {
		b := make([]byte, n%60)
		m.Read(b)
		p := m.fine(5)
		safe(t, p, string(b))
		same(t, p, string(b), 1+m.Intn(16), 16)
	}
}
