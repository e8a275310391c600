package names_test

import (
	"math"
	"slices"
	"testing"

	"respell/api"
	"respell/class"
	"respell/names"
)

// How items and sets are written in these tests.

func of(n ...int) api.Set {
	var s api.Set
	for i := 0; i+1 < len(n); i += 2 {
		s = append(s, api.Range{Lo: n[i], Hi: n[i+1]})
	}
	return s
}

// every is n units, from the first on, with one number between each two.
func every(first, n int) api.Set {
	var s api.Set
	for i := range n {
		s = append(s, api.Range{Lo: first + 2*i, Hi: first + 2*i})
	}
	return s
}

func row(l ...api.Item) []api.Item { return l }

func unit(u int) api.Item        { return api.Item{Kind: api.ItUnit, Unit: u} }
func name(s string) api.Item     { return api.Item{Kind: api.ItName, Name: s} }
func classOf(s string) api.Item  { return api.Item{Kind: api.ItClass, Name: s} }
func anyUnit() api.Item          { return api.Item{Kind: api.ItAny} }
func set(l ...api.Item) api.Item { return api.Item{Kind: api.ItSet, Parts: l} }
func not(l ...api.Item) api.Item { return api.Item{Kind: api.ItSet, Parts: l, Not: true} }
func upTo(lo, hi int) api.Item   { return api.Item{Kind: api.ItRange, Lo: lo, Hi: hi} }
func copied(n int) api.Item      { return api.Item{Kind: api.ItCopy, Key: n} }
func pair(n int, i ...api.Item) api.Item {
	return api.Item{Kind: api.ItPair, Key: n, Parts: i}
}

func units(s api.Set) []api.Item {
	var l []api.Item
	for _, r := range s {
		l = append(l, unit(r.Lo))
	}
	return l
}

const (
	maxRune  = 0x10FFFF
	firstRaw = 0x110080
	lastRaw  = 0x1100FF
)

var (
	none   = api.Set(nil)
	all    = of(0, 0xD7FF, 0xE000, maxRune, firstRaw, lastRaw)
	runes  = of(0, 0xD7FF, 0xE000, maxRune)
	strays = of(firstRaw, lastRaw)
)

// known has sets, and rows that are none, under their names.
var known = map[string]api.Set{
	"v": of('a', 'c'), "w": of('w', 'w'), "empty": {}, "nil": nil, "many": every(0x400, 512), "all": all, "rune": of('r', 'r'), "": of('0', '9'),
	"wrong": of(9, 5), "upside": of('x', 'z', 'a', 'c'), "touch": of('a', 'b', 'c', 'd'), "surrogates": of(0xD7FF, 0xE000), "below": of(-1, 3), "above": of(0x110100, 0x110100), "over": of(maxRune, firstRaw), "513": every(0, 513),
}

func setIs(t *testing.T, i api.Item, want api.Set) {
	t.Helper()
	if got, e := names.Set(i, known); !slices.Equal(got, want) || e != api.OK {
		t.Errorf("%v: %v, %d; want %v", i, got, e, want)
	}
}

func noSet(t *testing.T, i api.Item, want api.Errno) {
	t.Helper()
	if got, e := names.Set(i, known); len(got) != 0 || e != want {
		t.Errorf("%v: %v, %d; want %d", i, got, e, want)
	}
}

var goodUnits = []int{0, 1, 'a', 0x7F, 0x80, 0xFF, 0xD7FE, 0xD7FF, 0xE000, 0xE001, 0xFFFD, 0xFFFF, 0x10000, maxRune - 1, maxRune, firstRaw, firstRaw + 1, 0x1100C3, lastRaw - 1, lastRaw}

var noUnits = []int{math.MinInt, math.MinInt + 1, -1 << 32, -0x110000, -2, -1, 0xD800, 0xD801, 0xDBFF, 0xDC00, 0xDFFE, 0xDFFF, 0x110000, 0x110041, 0x11007F, 0x110100, 0x110101, 1 << 32, 1<<32 + 'a', math.MaxInt - 1, math.MaxInt}

func TestSetOfAUnit(t *testing.T) { // P6.1
	for _, u := range goodUnits {
		setIs(t, unit(u), of(u, u))
		setIs(t, set(unit(u)), of(u, u))
	}
	for _, u := range noUnits {
		noSet(t, unit(u), api.ErrNamesKind)
		noSet(t, set(unit(u)), api.ErrNamesKind)
		noSet(t, not(unit(u)), api.ErrNamesKind)
	}
}

func TestSetOfAName(t *testing.T) { // P6.1
	for _, n := range []string{"v", "w", "empty", "nil", "many", "all", "rune", ""} {
		setIs(t, name(n), known[n])
		setIs(t, set(name(n)), known[n])
	}
	for _, n := range []string{"V", "vv", "digit", "$v", " v", "v\x00", "none"} {
		noSet(t, name(n), api.ErrNamesNone)
		noSet(t, set(name(n)), api.ErrNamesNone)
	}
	for _, n := range []string{"wrong", "upside", "touch", "surrogates", "below", "above", "over", "513"} {
		noSet(t, name(n), api.ErrNamesKind)
		noSet(t, set(name(n)), api.ErrNamesKind)
		noSet(t, not(name(n)), api.ErrNamesKind)
	}
	for _, m := range []map[string]api.Set{nil, {}, {"w": of('w', 'w')}} {
		if s, e := names.Set(name("v"), m); len(s) != 0 || e != api.ErrNamesNone {
			t.Errorf("v by %v: %v, %d", m, s, e)
		}
	}
}

func TestSetOfAClass(t *testing.T) { // P6.1
	for _, n := range class.Names() {
		want, _ := class.Of(n)
		setIs(t, classOf(n), want)
		setIs(t, set(classOf(n)), want)
	}
	// What names stand for, and what is no class, are two things.
	for _, n := range []string{"", "none", "Digit", "v", "w", ":digit:", "digits"} {
		noSet(t, classOf(n), api.ErrClassName)
		noSet(t, set(classOf(n)), api.ErrClassName)
		noSet(t, not(classOf(n)), api.ErrClassName)
	}
	setIs(t, name("rune"), of('r', 'r'))
	setIs(t, classOf("rune"), runes)
}

func TestSetOfAnyUnit(t *testing.T) { // P6.1
	setIs(t, anyUnit(), all)
}

func TestSetOfARange(t *testing.T) { // P6.1
	for _, x := range []struct {
		lo, hi int
		want   api.Set
	}{
		{'a', 'z', of('a', 'z')}, {'a', 'a', of('a', 'a')}, {0, 0, of(0, 0)}, {'a', 'b', of('a', 'b')},
		{0, maxRune, runes}, {firstRaw, lastRaw, strays}, {firstRaw, firstRaw, of(firstRaw, firstRaw)}, {lastRaw, lastRaw, of(lastRaw, lastRaw)}, {firstRaw, firstRaw + 2, of(firstRaw, firstRaw+2)},
		{0xD7FF, 0xE000, of(0xD7FF, 0xD7FF, 0xE000, 0xE000)}, {0xD000, 0xF000, of(0xD000, 0xD7FF, 0xE000, 0xF000)}, {0xD7FF, 0xD7FF, of(0xD7FF, 0xD7FF)}, {0xE000, 0xE000, of(0xE000, 0xE000)},
		{maxRune, maxRune, of(maxRune, maxRune)},
	} {
		setIs(t, set(upTo(x.lo, x.hi)), x.want)
		noSet(t, upTo(x.lo, x.hi), api.ErrNamesKind)
	}
	for _, x := range [][2]int{
		{'b', 'a'}, {maxRune, 0}, {lastRaw, firstRaw}, {0xE000, 0xD7FF},
		{'a', firstRaw}, {0, lastRaw}, {maxRune, firstRaw}, {firstRaw, 'a'}, {firstRaw, maxRune},
	} {
		noSet(t, set(upTo(x[0], x[1])), api.ErrNamesKind)
		noSet(t, not(upTo(x[0], x[1])), api.ErrNamesKind)
	}
	for _, u := range noUnits {
		for _, v := range slices.Concat(goodUnits, noUnits) {
			noSet(t, set(upTo(u, v)), api.ErrNamesKind)
			noSet(t, set(upTo(v, u)), api.ErrNamesKind)
		}
	}
}

func TestSetOfParts(t *testing.T) { // P6.1
	for _, x := range []struct {
		item api.Item
		want api.Set
	}{
		{set(), none}, {not(), runes}, {set(name("empty")), none}, {not(name("nil")), runes},
		{set(unit('z'), upTo(firstRaw, firstRaw+2)), of('z', 'z', firstRaw, firstRaw+2)},
		{set(unit('c'), unit('a'), unit('b'), unit('a')), of('a', 'c')},
		{set(upTo('a', 'f'), upTo('d', 'k'), name("v"), name("w"), classOf("digit")), of('0', '9', 'a', 'k', 'w', 'w')},
		{set(name("all"), unit('a')), all}, {set(classOf("rune"), classOf("stray")), all}, {set(upTo(0, maxRune), upTo(firstRaw, lastRaw)), all},
		{not(name("v")), of(0, 'a'-1, 'd', 0xD7FF, 0xE000, maxRune)},
		{not(unit(0), unit(maxRune)), of(1, 0xD7FF, 0xE000, maxRune-1)}, {not(upTo(0xD7FF, 0xE000)), of(0, 0xD7FE, 0xE001, maxRune)},
		{not(classOf("stray")), runes}, {not(classOf("any")), none}, {not(classOf("rune")), none}, {not(upTo(0, maxRune)), none}, {not(upTo(firstRaw, lastRaw), unit('a')), of(0, 'a'-1, 'b', 0xD7FF, 0xE000, maxRune)},
	} {
		setIs(t, x.item, x.want)
	}
	for _, kind := range []int{api.ItAny, api.ItSet, api.ItCopy, api.ItPair, 0, -1, 9, 10, math.MaxInt, math.MinInt} {
		p := api.Item{Kind: kind, Unit: 'a', Name: "v", Lo: 'a', Hi: 'b', Key: 1}
		noSet(t, set(p), api.ErrNamesKind)
		noSet(t, not(unit('a'), p), api.ErrNamesKind)
	}
}

func TestTheFirstErrorOfSeveralParts(t *testing.T) { // P6.1, R2
	bad := []struct {
		part api.Item
		code api.Errno
	}{
		{unit(-1), api.ErrNamesKind}, {name("none"), api.ErrNamesNone}, {classOf("none"), api.ErrClassName}, {upTo('b', 'a'), api.ErrNamesKind}, {set(), api.ErrNamesKind}, {name("wrong"), api.ErrNamesKind},
	}
	for _, a := range bad {
		for _, b := range bad {
			noSet(t, set(a.part, b.part), a.code)
			noSet(t, not(unit('x'), a.part, upTo('a', 'c'), b.part), a.code)
			// Of parts that are too many one that has an error comes first, wherever it stands.
			noSet(t, set(append(units(every(0, 600)), a.part, b.part)...), a.code)
			noSet(t, set(append(row(name("many"), upTo(0, 5), a.part), units(every(0x1000, 600))...)...), a.code)
		}
	}
}

func TestManyRanges(t *testing.T) { // P6.1
	setIs(t, set(units(every(0, 512))...), every(0, 512))
	noSet(t, set(units(every(0, 513))...), api.ErrSetMany)
	noSet(t, not(units(every(0, 513))...), api.ErrSetMany)
	noSet(t, set(name("many"), unit('a')), api.ErrSetMany)
	setIs(t, set(name("many"), unit(0x401)), append(of(0x400, 0x402), every(0x404, 510)...))
	// It is what all parts have together that counts, not what some of them have.
	setIs(t, set(append(units(every(0, 600)), upTo(0, 2000))...), of(0, 2000))
	setIs(t, set(append(row(name("many"), classOf("vowel")), upTo(0, 0x1000))...), of(0, 0x1000))
	// The other of n units that are apart, 0 not among them, has n + 2 ranges: what is ahead of them, between them, and behind them to the surrogates, and behind these.
	odd := every(1, 510)
	want := append(every(0, 510), of(1020, 0xD7FF, 0xE000, maxRune)...)
	setIs(t, not(units(odd)...), want)
	noSet(t, not(units(every(1, 511))...), api.ErrSetMany)
	noSet(t, not(units(every(1, 512))...), api.ErrSetMany)
	setIs(t, not(units(every(0, 511))...), append(every(1, 510), of(1021, 0xD7FF, 0xE000, maxRune)...))
	noSet(t, not(name("many")), api.ErrSetMany)
	setIs(t, not(name("many"), upTo(0x400, 0x404)), append(append(of(0, 0x3FF), every(0x405, 509)...), of(0x7FF, 0xD7FF, 0xE000, maxRune)...))
}

// junk is an item that has something in all fields but those that its kind looks at.
func junk(i api.Item) api.Item {
	j := api.Item{Kind: i.Kind, Unit: -5, Name: "wrong", Parts: row(unit(-1), copied(0)), Lo: 9, Hi: 3, Not: true, Key: -7}
	switch i.Kind {
	case api.ItUnit:
		j.Unit = i.Unit
	case api.ItName, api.ItClass:
		j.Name = i.Name
	case api.ItSet:
		j.Not, j.Parts = i.Not, nil
		for _, p := range i.Parts {
			j.Parts = append(j.Parts, junk(p))
		}
	case api.ItRange:
		j.Lo, j.Hi = i.Lo, i.Hi
	}
	return j
}

func TestFieldsThatAreNotLookedAt(t *testing.T) { // P6.1
	for _, i := range []api.Item{unit('a'), name("v"), classOf("digit"), anyUnit(), set(), not(), set(unit('a'), name("v"), classOf("digit"), upTo('k', 'l')), not(unit('a'), name("v"), classOf("digit"), upTo('k', 'l'))} {
		want, e := names.Set(i, known)
		if e != api.OK {
			t.Fatal(i, e)
		}
		setIs(t, junk(i), want)
	}
}

func TestWhatIsNoKindOfItem(t *testing.T) { // P6.1
	for _, kind := range []int{api.ItRange, api.ItCopy, api.ItPair, 0, -1, 9, 10, 11, 256 + 1, 1<<32 + 1, math.MinInt, math.MaxInt} {
		noSet(t, api.Item{Kind: kind}, api.ErrNamesKind)
		noSet(t, api.Item{Kind: kind, Unit: 'a', Name: "v", Parts: row(unit('a')), Lo: 'a', Hi: 'b', Key: 1}, api.ErrNamesKind)
	}
}
