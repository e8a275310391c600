package names_test

import (
	"fmt"
	"math"
	"math/rand"
	"slices"
	"testing"

	"respell/api"
	"respell/class"
	"respell/names"
)

// What the chapter says, worked out anew by asking unit for unit, so that the tests lean neither on the package nor on its way to join ranges.

func runeByWords(u int) bool  { return u >= 0 && u < 0xD800 || u > 0xDFFF && u < 0x110000 }
func strayByWords(u int) bool { return u >= 0x110080 && u <= 0x1100FF }
func unitByWords(u int) bool  { return runeByWords(u) || strayByWords(u) }

// crowd says of each number whether it is in, and at which numbers that may change.
type crowd struct {
	has    func(u int) bool
	points []int
}

func crowdOf(l []api.Range) crowd {
	var points []int
	for _, r := range l {
		points = append(points, r.Lo, r.Hi+1)
	}
	return crowd{func(u int) bool {
		return slices.ContainsFunc(l, func(r api.Range) bool { return r.Lo <= u && u <= r.Hi })
	}, points}
}

// ranges is the one row of a crowd's units.
func (c crowd) ranges() api.Set {
	points := append([]int{0, 0xD800, 0xE000, 0x110000, 0x110080, 0x110100}, c.points...)
	slices.Sort(points)
	points = slices.Compact(points)
	var s api.Set
	for i, lo := range points[:len(points)-1] {
		if !unitByWords(lo) || !c.has(lo) {
			continue
		}
		if n := len(s); n > 0 && s[n-1].Hi == lo-1 {
			s[n-1].Hi = points[i+1] - 1
		} else {
			s = append(s, api.Range{Lo: lo, Hi: points[i+1] - 1})
		}
	}
	return s
}

// setByForm tells whether a row is a set.
func setByForm(s api.Set) bool {
	for i, r := range s {
		whole := r.Lo >= 0 && r.Hi < 0xD800 || r.Lo > 0xDFFF && r.Hi < 0x110000 || r.Lo >= 0x110080 && r.Hi <= 0x1100FF
		if !whole || r.Lo > r.Hi || i > 0 && r.Lo < s[i-1].Hi+2 {
			return false
		}
	}
	return len(s) <= 512
}

func few(s api.Set) (api.Set, api.Errno) {
	if len(s) > 512 {
		return nil, api.ErrSetMany
	}
	return s, api.OK
}

func setByWords(i api.Item, known map[string]api.Set) (api.Set, api.Errno) {
	switch i.Kind {
	case 1:
		if !unitByWords(i.Unit) {
			return nil, api.ErrNamesKind
		}
		return of(i.Unit, i.Unit), api.OK
	case 2:
		if _, is := known[i.Name]; !is {
			return nil, api.ErrNamesNone
		}
		if !setByForm(known[i.Name]) {
			return nil, api.ErrNamesKind
		}
		return known[i.Name], api.OK
	case 3:
		return class.Of(i.Name)
	case 4:
		return of(0, 0xD7FF, 0xE000, 0x10FFFF, 0x110080, 0x1100FF), api.OK
	case 5:
		return partsByWords(i, known)
	}
	return nil, api.ErrNamesKind
}

func partsByWords(i api.Item, known map[string]api.Set) (api.Set, api.Errno) {
	var all []api.Range
	for _, p := range i.Parts {
		s, e := api.Set(nil), api.ErrNamesKind
		switch {
		case p.Kind == 6 && p.Lo <= p.Hi && (runeByWords(p.Lo) && runeByWords(p.Hi) || strayByWords(p.Lo) && strayByWords(p.Hi)):
			s, e = of(p.Lo, p.Hi), api.OK
		case p.Kind >= 1 && p.Kind <= 3:
			s, e = setByWords(p, known)
		}
		if e != api.OK {
			return nil, e
		}
		all = append(all, s...)
	}
	in := crowdOf(all)
	if s, e := few(in.ranges()); e != api.OK || !i.Not {
		return s, e
	}
	return few(crowd{func(u int) bool { return runeByWords(u) && !in.has(u) }, in.points}.ranges())
}

func passesByWords(l []api.Line) ([]api.Pass, int, api.Errno) {
	passes := []api.Pass{{}}
	known := map[string]api.Set{}
	for n, x := range l {
		e := api.ErrNamesKind
		switch x.Kind {
		case 1:
			var s api.Set
			if _, is := known[x.Name]; is {
				e = api.ErrNamesTwice
			} else if len(x.Key) == 1 {
				if s, e = setByWords(x.Key[0], known); e == api.OK {
					known[x.Name] = s
				}
			}
		case 2:
			var r api.Rule
			r, e = ruleByWords(x, known)
			passes[len(passes)-1].Rules = append(passes[len(passes)-1].Rules, r)
		case 3:
			e = api.OK
			passes = append(passes, api.Pass{})
		}
		if e != api.OK {
			return nil, n, e
		}
	}
	return passes, 0, api.OK
}

func ruleByWords(x api.Line, known map[string]api.Set) (api.Rule, api.Errno) {
	var rows [3][]api.Set
	for k, items := range [][]api.Item{x.Ante, x.Key, x.Post} {
		for _, i := range items {
			s, e := setByWords(i, known)
			if e != api.OK {
				return api.Rule{}, e
			}
			rows[k] = append(rows[k], s)
		}
	}
	r := api.Rule{Begin: x.Begin, Ante: rows[0], Key: rows[1], Post: rows[2], End: x.End, Cursor: x.Cursor}
	for _, i := range x.Result {
		p := api.Piece{}
		switch {
		case i.Kind == 1 && unitByWords(i.Unit):
			p.Kind, p.Unit = 1, i.Unit
		case i.Kind == 7 && i.Key > 0:
			p.Kind, p.Key = 2, i.Key-1
		case i.Kind == 8 && i.Key > 0 && len(i.Parts) == 1:
			s, e := setByWords(i.Parts[0], known)
			if e != api.OK {
				return api.Rule{}, e
			}
			p.Kind, p.Key, p.To = 3, i.Key-1, s
		default:
			return api.Rule{}, api.ErrNamesKind
		}
		r.Result = append(r.Result, p)
	}
	return r, api.OK
}

// maker makes items and lines, any of them; of wrong it is one of so many.
type maker struct {
	*rand.Rand
	wrong int
}

func (m maker) errs() bool { return m.wrong > 0 && m.Intn(m.wrong) == 0 }

func pick[T any](m maker, l ...T) T { return l[m.Intn(len(l))] }

func (m maker) unit() int {
	if m.errs() {
		return pick[int](m, math.MinInt, -1, 0xD800, 0xDFFF, 0x110000, 0x11007F, 0x110100, 1<<32+'a', math.MaxInt)
	}
	return pick[int](m, 0, 'a', 'b', 'c', 'd', 'x', 'y', 'z', 0xE9, 0xD7FF, 0xE000, 0xFFFD, 0x10FFFF, 0x110080, 0x110081, 0x1100FF)
}

func (m maker) name() string {
	if m.errs() {
		return pick(m, "none", "", "V", "wrong", "upside")
	}
	return pick(m, "v", "w", "empty", "many")
}

func (m maker) class() string {
	if m.errs() {
		return pick(m, "none", "", "Digit", "v")
	}
	return pick(m, class.Names()...)
}

// junk is an item of a kind that has something in all of its fields.
func (m maker) junk(kind int) api.Item {
	i := api.Item{Kind: kind, Unit: m.unit(), Name: m.name(), Lo: m.unit(), Hi: m.unit(), Not: m.Intn(2) == 0, Key: m.Intn(9) + 1}
	if kind == api.ItClass {
		i.Name = m.class()
	}
	if i.Lo > i.Hi && !m.errs() {
		i.Lo, i.Hi = i.Hi, i.Lo
	}
	if runeByWords(i.Lo) != runeByWords(i.Hi) && !m.errs() {
		i.Hi = i.Lo
	}
	if m.errs() {
		i.Key = pick(m, 0, -1, math.MinInt, math.MaxInt)
	}
	return i
}

func (m maker) part() api.Item {
	if m.errs() {
		return m.junk(pick(m, 4, 5, 7, 8, 0, -1, 9, 10))
	}
	return m.junk(pick(m, 1, 1, 2, 3, 6, 6))
}

func (m maker) item() api.Item {
	i := m.junk(pick(m, 1, 1, 2, 2, 3, 4, 5, 5, 5))
	if m.errs() {
		i.Kind = pick(m, 6, 7, 8, 0, -1, 9, 10)
	}
	for range m.Intn(4) {
		i.Parts = append(i.Parts, m.part())
	}
	return i
}

func (m maker) piece() api.Item {
	i := m.junk(pick(m, 1, 7, 8))
	if m.errs() {
		i.Kind = pick(m, 2, 3, 4, 5, 6, 0, -1, 9)
	}
	i.Parts = row(m.item())
	if m.errs() {
		i.Parts = m.items(m.item)
	}
	return i
}

func (m maker) items(one func() api.Item) []api.Item {
	var l []api.Item
	for range m.Intn(4) {
		l = append(l, one())
	}
	return l
}

func (m maker) line() api.Line {
	l := api.Line{Kind: pick(m, 2, 2, 2, 3), At: m.Intn(99), Name: m.name(), Begin: m.Intn(2) == 0, End: m.Intn(2) == 0, Cursor: m.Intn(9) - 3}
	l.Ante, l.Key, l.Post, l.Result = m.items(m.item), m.items(m.item), m.items(m.item), m.items(m.piece)
	if m.errs() {
		l.Kind = pick(m, 0, -1, 4, 1, 1)
	}
	return l
}

// given gives all the names that items are made with.
func (m maker) given() []api.Line {
	evens := func(n int) (l []api.Item) {
		for i := range n {
			l = append(l, unit(0x400+2*i))
		}
		return l
	}
	return []api.Line{define("empty", set()), define("w", unit('w')), define("many", set(evens(pick(m, 5, 5, 5, 509))...)), define("v", set(upTo('a', 'e'), name("w")))}
}

func (m maker) lines() []api.Line {
	l := m.given()
	if m.errs() {
		m.Shuffle(len(l), func(i, j int) { l[i], l[j] = l[j], l[i] })
	}
	for range m.Intn(6) {
		l = append(l, m.line())
	}
	return l
}

func TestSetsAsTheWordsSay(t *testing.T) { // P6.1
	codes := map[api.Errno]int{}
	for _, wrong := range []int{0, 30, 5} {
		m := maker{rand.New(rand.NewSource(61)), wrong}
		for range 5000 {
			i := m.item()
			want, code := setByWords(i, known)
			got, e := names.Set(i, known)
			codes[e]++
			if !slices.Equal(got, want) || e != code {
				t.Errorf("%v: %v, %d; want %v, %d", i, got, e, want, code)
			}
		}
	}
	for _, e := range []api.Errno{api.OK, api.ErrNamesNone, api.ErrNamesKind, api.ErrClassName, api.ErrSetMany} {
		if codes[e] < 10 {
			t.Errorf("%d only %d times: the items are too tame", e, codes[e])
		}
	}
}

func TestPassesAsTheWordsSay(t *testing.T) { // P6.2
	codes := map[api.Errno]int{}
	for _, wrong := range []int{0, 300, 100, 20} {
		m := maker{rand.New(rand.NewSource(62)), wrong}
		for range 1000 {
			l := m.lines()
			want, line, code := passesByWords(l)
			got, at, e := names.Passes(l)
			codes[e]++
			if fmt.Sprint(got) != fmt.Sprint(want) || at != line || e != code {
				t.Fatalf("%v: %v, %d, %d; want %v, %d, %d", l, got, at, e, want, line, code)
			}
		}
	}
	for _, e := range []api.Errno{api.OK, api.ErrNamesNone, api.ErrNamesTwice, api.ErrNamesKind, api.ErrClassName, api.ErrSetMany} {
		if codes[e] < 10 {
			t.Errorf("%d only %d times: the lines are too tame", e, codes[e])
		}
	}
}
