package round_test

import (
	"math/rand"
	"slices"
	"strings"
	"testing"
	"unicode/utf8"

	"respell/api"
	"respell/pass"
	"respell/round"
	"respell/turn"
	"respell/weigh"
)

// What the chapter says, worked out anew of the layers that it names, error by error, unit by unit.

// answer is what a call answers; at is 0 of Sure, which tells no place.
type answer struct {
	is   bool
	at   int
	code api.Errno
}

func comesByWords(p api.Pass, s string) answer {
	if _, e := weigh.Check(p); e != api.OK {
		return answer{code: e}
	}
	turned, _, e := turn.Turn(p)
	if e != api.OK {
		return answer{code: e}
	}
	if _, e := weigh.Check(turned); e != api.OK {
		return answer{code: e}
	}
	if len(s) > 16384 {
		return answer{code: api.ErrLong}
	}
	there, _ := pass.Run(p, s)
	if len(there) > 16384 {
		return answer{code: api.ErrLong}
	}
	b, _ := pass.Run(turned, there)
	if b == s {
		return answer{is: true}
	}
	n := len(s)
	for !strings.HasPrefix(b, s[:n]) {
		n--
	}
	return answer{at: n}
}

func sureByWords(p api.Pass, s string) answer {
	if _, e := weigh.Check(p); e != api.OK {
		return answer{code: e}
	}
	over, _, e := turn.Over(p)
	if e != api.OK {
		return answer{code: e}
	}
	if len(s) > 16384 {
		return answer{code: api.ErrLong}
	}
	return answer{is: !slices.ContainsFunc(unitsByWords(s), func(u int) bool { return !has(over, u) })}
}

func has(s api.Set, u int) bool {
	return slices.ContainsFunc(s, func(r api.Range) bool { return r.Lo <= u && u <= r.Hi })
}

func unitsByWords(s string) []int {
	var l []int
	for at := 0; at < len(s); {
		r, n := utf8.DecodeRuneInString(s[at:])
		u := int(r)
		if r == utf8.RuneError && n == 1 {
			u = 0x110000 + int(s[at])
		}
		l, at = append(l, u), at+n
	}
	return l
}

func bytesOf(l ...int) string {
	var b []byte
	for _, u := range l {
		if u >= 0x110000 {
			b = append(b, byte(u-0x110000))
		} else {
			b = utf8.AppendRune(b, rune(u))
		}
	}
	return string(b)
}

// told holds what both calls answer against the words, and against one another, and is that.
func told(t *testing.T, p api.Pass, s string) (comes, sure answer) {
	t.Helper()
	comes.is, comes.at, comes.code = round.Comes(p, s)
	sure.is, sure.code = round.Sure(p, s)
	if want := comesByWords(p, s); comes != want {
		t.Fatalf("Comes of %s over %.60q: %v; want %v", brief(p), s, comes, want)
	}
	if want := sureByWords(p, s); sure != want {
		t.Fatalf("Sure of %s over %.60q: %v; want %v", brief(p), s, sure, want)
	}
	if sure.is && comes.code == api.OK && !comes.is { // P20.3
		t.Fatalf("%s over %.60q: sure, but it does not come back", brief(p), s)
	}
	return comes, sure
}

// backOf is what comes back.
func backOf(t *testing.T, p api.Pass, s string) string {
	t.Helper()
	turned, _, e := turn.Turn(p)
	there, f := pass.Run(p, s)
	again, g := pass.Run(turned, there)
	if e != api.OK || f != api.OK || g != api.OK {
		t.Fatalf("%s over %.60q: %d, %d, %d", brief(p), s, e, f, g)
	}
	return again
}

// maker makes passes and texts. Of its rules one in wrong can't be turned, or may not be at all; 0: none.
type maker struct {
	*rand.Rand
	wrong int
}

func made(seed int64, wrong int) maker { return maker{rand.New(rand.NewSource(seed)), wrong} }

func pick[T any](m maker, l ...T) T { return l[m.Intn(len(l))] }

// loud is the units of keys and images, and quiet those of contexts. Both have units of all widths, and strays that make runes with one another.
var (
	loud  = []int{'a', 'b', 'c', 'x', 'y', 'z', 0xE9, 0x7FF, 0x20AC, 0xD7FF, 0xE000, 0xFFFD, 0x10000, maxRune, firstRaw, 0x1100A9, 0x1100C3, 0x1100E2, lastRaw}
	quiet = []int{0, '1', '2', 0x7F, 0x80, 0x800, 0x10001, maxRune - 1, 0x110082, 0x1100AC, 0x1100F0}
)

const loudRunes = 14

// some is a set of n of some units that rise.
func (m maker) some(n int, of []int) api.Set {
	l := slices.Clone(of)
	m.Shuffle(len(l), func(i, j int) { l[i], l[j] = l[j], l[i] })
	l = l[:n]
	slices.Sort(l)
	var s api.Set
	for _, u := range l {
		if k := len(s); k > 0 && s[k-1].Hi == u-1 {
			s[k-1].Hi = u
		} else {
			s = append(s, api.Range{Lo: u, Hi: u})
		}
	}
	return s
}

func (m maker) near() []api.Set {
	var l []api.Set
	for range pick(m, 0, 0, 0, 0, 1, 2) {
		l = append(l, m.some(1+m.Intn(4), quiet))
	}
	return l
}

// rule is one that can be turned, as far as that is asked of it alone.
func (m maker) rule() api.Rule {
	r := api.Rule{Ante: m.near(), Post: m.near(), Begin: m.Intn(8) == 0, End: m.Intn(8) == 0}
	for place := range pick(m, 1, 1, 1, 2, 2, 3) {
		n := pick(m, 1, 1, 2, 3)
		switch m.Intn(3) {
		case 0:
			r.Key = append(r.Key, m.some(n, loud[:loudRunes]))
			r.Result = append(r.Result, again(place))
		case 1:
			r.Key = append(r.Key, m.some(n, loud))
			r.Result = append(r.Result, paired(place, m.some(n, loud[:loudRunes])))
		case 2:
			r.Key = append(r.Key, m.some(1, loud))
		}
	}
	for len(r.Result) == 0 || m.Intn(3) == 0 && len(r.Result) < 8 {
		r.Result = append(r.Result, unit(pick(m, loud[:loudRunes]...)))
	}
	m.Shuffle(len(r.Result), func(i, j int) { r.Result[i], r.Result[j] = r.Result[j], r.Result[i] })
	r.Cursor = len(r.Result)
	return r
}

// spoilt is a rule of which something is not as it must be.
func (m maker) spoilt(r api.Rule) api.Rule {
	switch m.Intn(8) {
	case 0:
		r.Result, r.Cursor = nil, 0
	case 1:
		r.Cursor = m.Intn(r.Cursor)
	case 2:
		r.Result[0] = unit(pick(m, loud...))
	case 3:
		r.Result = append(r.Result, again(0))
		r.Cursor++
	case 4:
		r.Post = row(m.some(2, loud))
	case 5:
		r.Result = slices.Repeat(pieces(unit('q')), 9)
		r.Cursor = 9
	case 6:
		r.Cursor += pick(m, 1, -99)
	case 7:
		r.Key[0] = pick(m, nil, of('b', 'a'), of(0xD7FF, 0xE000))
	}
	return r
}

func (m maker) pass(most int) api.Pass {
	var p api.Pass
	for range m.Intn(most + 1) {
		r := m.rule()
		if m.wrong > 0 && m.Intn(m.wrong) == 0 {
			r = m.spoilt(r)
		}
		p.Rules = append(p.Rules, r)
	}
	return p
}

// fine is a pass that can be turned: rules that stand in the way are left out.
func (m maker) fine(most int) api.Pass {
	p := m.pass(most)
	for {
		_, n, e := turn.Turn(p)
		if e == api.OK {
			return p
		}
		p.Rules = slices.Delete(p.Rules, n, n+1)
	}
}

// units are some, that often are what a rule of a pass wants.
func (m maker) units(p api.Pass, most int) []int {
	var l []int
	for n := m.Intn(most + 1); len(l) < n; {
		if len(p.Rules) == 0 || m.Intn(3) == 0 {
			l = append(l, pick(m, slices.Concat(loud, quiet)...))
			continue
		}
		r := pick(m, p.Rules...)
		for _, s := range slices.Concat(r.Ante, r.Key, r.Post) {
			x := pick(m, s...)
			l = append(l, x.Lo+m.Intn(x.Hi-x.Lo+1))
		}
	}
	return l
}
