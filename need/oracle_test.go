package need_test

import (
	"math/rand"
	"slices"
	"strings"
	"testing"
	"unicode/utf8"

	"respell/api"
	"respell/need"
)

// What the document says, worked out anew: a step is that of the whole text, and texts are tried one by one.

func has(s api.Set, u int) bool {
	return slices.ContainsFunc(s, func(r api.Range) bool { return r.Lo <= u && u <= r.Hi })
}

func bytesOf(u int) string {
	if u >= 0x110000 {
		return string([]byte{byte(u - 0x110000)})
	}
	return string(rune(u))
}

func unitsByWords(s string) []int {
	var l []int
	for at := 0; at < len(s); {
		r, n := utf8.DecodeRuneInString(s[at:])
		u := int(r)
		if r == utf8.RuneError && n == 1 {
			u = 0x110000 + int(s[at])
		}
		l, at = append(l, u), at+n
	}
	return l
}

// begins tells whether a text ahead of which nothing stands has its first unit still open: its bytes are the first ones of a rune, but not all.
func begins(s string) bool {
	return len(s) > 0 && !utf8.FullRuneInString(s)
}

func standsAt(l []int, sets []api.Set) bool {
	if len(l) < len(sets) {
		return false
	}
	for i, s := range sets {
		if !has(s, l[i]) {
			return false
		}
	}
	return true
}

func fitsByWords(r api.Rule, done, left []int) bool {
	ahead := len(done) - len(r.Ante)
	if ahead < 0 || r.Begin && ahead > 0 || !standsAt(done[ahead:], r.Ante) || !standsAt(left, r.Key) {
		return false
	}
	behind := left[len(r.Key):]
	return standsAt(behind, r.Post) && (!r.End || len(behind) == len(r.Post))
}

// next is a step: the rule, and the units that it takes.
type next struct {
	rule  int
	taken []int
}

func (x next) same(y next) bool { return x.rule == y.rule && slices.Equal(x.taken, y.taken) }

func stepByWords(p api.Pass, done, back []int, text string) next {
	left := slices.Concat(back, unitsByWords(text))
	best := -1
	for n, r := range p.Rules {
		if fitsByWords(r, done, left) && (best < 0 || len(r.Key) > len(p.Rules[best].Key)) {
			best = n
		}
	}
	switch {
	case best >= 0:
		return next{best, left[:len(p.Rules[best].Key)]}
	case len(left) > 0:
		return next{-1, left[:1]}
	}
	return next{-1, nil}
}

// other is a continuation of so many units of the crowd at most that makes the step another one, if one does. It tries them all.
func other(p api.Pass, done, back []int, known string, most int) (string, bool) {
	now := stepByWords(p, done, back, known)
	front := []string{""}
	for range most {
		var longer []string
		for _, t := range front {
			for _, u := range crowd {
				x := t + bytesOf(u)
				if !stepByWords(p, done, back, known+x).same(now) {
					return x, true
				}
				longer = append(longer, x)
			}
		}
		front = longer
	}
	return "", false
}

// maker makes passes and places, any of them.
type maker struct{ *rand.Rand }

func made(seed int64) maker { return maker{rand.New(rand.NewSource(seed))} }

func pick[T any](m maker, l ...T) T { return l[m.Intn(len(l))] }

// crowd is units of which the strays make runes with one another, those of the crowd and others.
var crowd = []int{'a', 'b', 0xE9, 0x20AC, 0x10000, 0x110080, 0x110082, 0x110090, 0x1100A9, 0x1100AC, 0x1100C3, 0x1100E2, 0x1100F0}

// stretches is sets that have all the runes that begin with bytes of the crowd, or all but one, and strays with these.
var stretches = []api.Set{
	all, of(0, 0xD7FF, 0xE000, maxRune), of(firstRaw, lastRaw),
	of(0xC0, 0xFF), of(0xC0, 0xE8, 0xEA, 0xFF), of(0xC0, 0xFF, 0x1100C3, 0x1100C3), of(0xC0, 0xE8, 0xEA, 0xFF, 0x1100C3, 0x1100C3),
	of(0x2000, 0x2FFF), of(0x2000, 0x2FFF, 0x1100E2, 0x1100E2), of(0x2000, 0x20AB, 0x20AD, 0x2FFF, 0x1100E2, 0x1100E2), of(0x2080, 0x20BF, 0x1100E2, 0x1100E2),
	of(0x10000, 0x3FFFF), of(0x10000, 0x3FFFF, 0x1100F0, 0x1100F0), of(0x10001, 0x3FFFF, 0x1100F0, 0x1100F0), of(0x10000, 0x10FFF, 0x1100F0, 0x1100F0),
	of(firstRaw, 0x1100BF), of(0x1100C2, 0x1100F4),
}

// some is a set of n of some units.
func (m maker) some(n int, of []int) api.Set {
	var s api.Set
	for i := range of {
		if m.Intn(len(of)-i) >= n {
			continue
		}
		n--
		if k := len(s); k > 0 && s[k-1].Hi == of[i]-1 {
			s[k-1].Hi = of[i]
		} else {
			s = append(s, api.Range{Lo: of[i], Hi: of[i]})
		}
	}
	return s
}

func (m maker) set() api.Set {
	switch m.Intn(4) {
	case 0:
		return slices.Clone(pick(m, stretches...))
	case 1:
		return m.some(1+m.Intn(3), crowd[5:])
	case 2:
		return m.some(1, crowd)
	}
	return m.some(1+m.Intn(len(crowd)), crowd)
}

func (m maker) row(n int) []api.Set {
	var l []api.Set
	for range n {
		l = append(l, m.set())
	}
	return l
}

// rule is one that wants few units, so that all that may come can be tried.
func (m maker) rule() api.Rule {
	r := api.Rule{Begin: m.Intn(9) == 0, End: m.Intn(6) == 0, Ante: m.row(pick(m, 0, 0, 0, 1, 2)), Key: m.row(pick(m, 1, 1, 2, 3)), Post: m.row(pick(m, 0, 0, 1, 1, 2))}
	if m.Intn(2) == 0 {
		r.Key[0] = slices.Clone(a)
	}
	for range m.Intn(3) {
		r.Result = append(r.Result, pick(m, unit(pick(m, crowd...)), again(0), paired(0, slices.Clone(r.Key[0]))))
	}
	r.Cursor = m.Intn(len(r.Result) + 1)
	return r
}

func (m maker) pass(most int) api.Pass {
	var p api.Pass
	for range m.Intn(most + 1) {
		p.Rules = append(p.Rules, m.rule())
	}
	return p
}

// numbers is up to so many units, at times with a number that is none.
func (m maker) numbers(most int) []int {
	var l []int
	for range m.Intn(most + 1) {
		l = append(l, pick(m, crowd...))
		if m.Intn(30) == 0 {
			l[len(l)-1] = pick(m, noUnits...)
		}
	}
	return l
}

// at is a unit of the crowd in a set, if it has one.
func (m maker) at(s api.Set) int {
	l := slices.DeleteFunc(slices.Clone(crowd), func(u int) bool { return !has(s, u) })
	if len(l) == 0 {
		return pick(m, crowd...)
	}
	return pick(m, l...)
}

// place is where a rule of a pass fits if more comes, or nearly does; or any.
func (m maker) place(p api.Pass) (done, back []int, known string) {
	if len(p.Rules) == 0 || m.Intn(4) == 0 {
		return m.numbers(3), m.numbers(pick(m, 0, 0, 1, 2)), m.text(4)
	}
	r := pick(m, p.Rules...)
	for _, s := range r.Ante {
		done = append(done, m.at(s))
	}
	var left []int
	for _, s := range slices.Concat(r.Key, r.Post) {
		left = append(left, m.at(s))
	}
	left = left[:m.Intn(len(left)+1)]
	cut := pick(m, 0, 0, m.Intn(len(left)+1))
	back = left[:cut:cut]
	for _, u := range left[cut:] {
		known += bytesOf(u)
	}
	known += pick(m, "", "", "", "\xC3", "\xE2", "\xE2\x82", "\xF0", "\xF0\x90", "\xF0\x90\x80")
	if m.Intn(5) == 0 {
		done = append(m.numbers(2), done...)
	}
	return done, back, known[:max(0, len(known)-pick(m, 0, 0, 0, 1))]
}

// text is one with strays, some of which make a rune.
func (m maker) text(most int) string {
	s := ""
	for range m.Intn(most + 1) {
		s += bytesOf(pick(m, crowd...))
	}
	return s
}

func TestStepsAsTheWordsSay(t *testing.T) { // P14.1, P14.2
	m := made(302)
	found := map[int]int{}
	for range 5000 {
		p := m.pass(pick(m, 1, 3, 6))
		for range 4 {
			done, back, known := m.place(p)
			now := stepByWords(p, done, back, known)
			n, is := need.Decide(p, done, back, known)
			if !is {
				found[open]++
				asks(t, p, done, back, known, open)
				continue
			}
			found[n]++
			if len(now.taken) == 0 {
				t.Fatalf("%s, %v, %v, %q: decided, and nothing is left", brief(p), done, back, known)
			}
			asks(t, p, done, back, known, now.rule)
			if s, is := other(p, done, back, known, 2); is {
				t.Fatalf("%s, %v, %v, %q: decided, but for %q", brief(p), done, back, known, s)
			}
		}
	}
	if found[open] < 5000 || found[-1] < 2000 || found[0] < 1000 || found[2] < 100 || len(found) < 8 {
		t.Errorf("%v: the passes are too tame or too wild", found)
	}
}

// Fewer places, at which all that comes is tried farther.
func TestStepsFarAhead(t *testing.T) { // P14.1, P14.2
	m := made(303)
	decided := 0
	for decided < 120 {
		p := m.pass(2)
		done, back, known := m.place(p)
		if n, is := need.Decide(p, done, back, known); !is {
			asks(t, p, done, back, known, open)
			continue
		} else if n >= 0 && len(known)+len(back) > 3 {
			continue
		}
		decided++
		if s, is := other(p, done, back, known, 4); is {
			t.Fatalf("%s, %v, %v, %q: decided, but for %q", brief(p), done, back, known, s)
		}
	}
}

// Rows of few units each, tried all: one that a text has, or none.
func TestRowsAsTheWordsSay(t *testing.T) { // P14.1, P14.2
	m := made(304)
	yes, no := 0, 0
	heads := []string{"", "", "\xC3", "\xE2", "\xE2\x82", "\xF0", "\xF0\x90", "\xF0\x90\x80", "\xE0", "\xED", "\xF4"}
	edges := []int{0x110080, 0x11008F, 0x110090, 0x11009F, 0x1100A0, 0x1100BF, 0x1100C2, 0x1100E0, 0x1100E1, 0x1100ED, 0x1100F0, 0x1100F1, 0x1100F4}
	for range 12000 {
		var sets []api.Set
		for range 1 + m.Intn(7) {
			sets = append(sets, m.some(pick(m, 1, 1, 1, 2, 3), pick(m, crowd[5:], edges, edges[:6], edges[6:])))
		}
		head := pick(m, heads...)
		want := -1
		if rowByWords(sets, "", head) {
			want = open
		}
		n := m.Intn(len(sets) + 1)
		r := api.Rule{Key: append(row(a), sets[:n]...), Post: sets[n:], End: m.Intn(2) == 0}
		if fitsByWords(r, nil, unitsByWords("a"+head)) {
			continue
		}
		if want == open {
			yes++
		} else {
			no++
		}
		asks(t, rules(r), nil, nil, "a"+head, want)
		// Where all of it was put back, strays may stand there as they like.
		asks(t, rules(r), nil, append([]int{'a'}, some(m, sets[:len(sets)-1])...), "", open)
	}
	if yes < 2000 || no < 2000 {
		t.Errorf("%d rows may come, %d may not: they are too tame or too wild", yes, no)
	}
}

// some is a unit of each set.
func some(m maker, sets []api.Set) []int {
	var l []int
	for _, s := range sets {
		r := pick(m, s...)
		l = append(l, r.Lo+m.Intn(r.Hi-r.Lo+1))
	}
	return l
}

// rowByWords tells whether units of sets, which go on with a text, are those of a text that begins with some bytes.
func rowByWords(sets []api.Set, text, head string) bool {
	if len(sets) == 0 {
		return strings.HasPrefix(text, head)
	}
	for u := range each(sets[0]) {
		x := text + bytesOf(u)
		if (strings.HasPrefix(x, head) || strings.HasPrefix(head, x)) && slices.Equal(unitsByWords(x), append(unitsByWords(text), u)) && rowByWords(sets[1:], x, head) {
			return true
		}
	}
	return false
}

// each is the units of a set.
func each(s api.Set) func(func(int) bool) {
	return func(yield func(int) bool) {
		for _, r := range s {
			for u := r.Lo; u <= r.Hi; u++ {
				if !yield(u) {
					return
				}
			}
		}
	}
}
