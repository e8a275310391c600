package atoms_test

import (
	"math"
	"slices"
	"testing"

	"respell/api"
	"respell/atoms"
	"respell/set"
)

// three are the sets of the chapter's examples.
var three = list(of('a', 'f'), of('c', 'p'), nil)

// row is a table's atoms of some numbers.
func row(x *atoms.Table, l ...int) []int {
	var out []int
	for _, u := range l {
		out = append(out, x.Of(u))
	}
	return out
}

func hasSet(t *testing.T, x *atoms.Table, atom int, want api.Set) {
	t.Helper()
	if s, is := x.Set(atom); !is || !slices.Equal(s, want) {
		t.Errorf("Set(%d): %x, %v, not %x", atom, s, is, want)
	}
}

func TestExamples(t *testing.T) { // P11.1, P11.2, P11.3
	x := made(t, three)
	if x.Len() != 4 {
		t.Errorf("Len: %d", x.Len())
	}
	if got := row(x, 0, 0x61, 0x63, 0x67, 0x71, 0x110080, 0xD800); !slices.Equal(got, []int{0, 1, 2, 3, 0, 0, -1}) {
		t.Errorf("Of: %d", got)
	}
	hasSet(t, x, 2, of(0x63, 0x66))
	hasSet(t, x, 0, of(0, 0x60, 0x71, 0xD7FF, 0xE000, 0x10FFFF, 0x110080, 0x1100FF))
	for _, k := range []struct {
		atom, n int
		want    bool
	}{{2, 0, true}, {2, 1, true}, {3, 0, false}, {0, 2, false}, {9, 0, false}, {0, 9, false}} {
		if x.In(k.atom, k.n) != k.want {
			t.Errorf("In(%d, %d) is not %v", k.atom, k.n, k.want)
		}
	}
	refused(t, list(of(0x66, 0x61)))
}

// P11.1

func refused(t *testing.T, l []api.Set) {
	t.Helper()
	if x, err := atoms.New(l); x != nil || err != api.ErrSetRow {
		t.Errorf("New(%s): %v, %d", short(l), x, err)
	}
}

// noSets are rows that are no sets, each for one reason.
var noSets = []api.Set{
	of('c', 'a'), of(5, 4), of('a', 'c', 'x', 'w'), // Lo above Hi
	of('a', 'c', 'd', 'e'),                         // they touch
	of('a', 'c', 'c', 'e'), of('a', 'c', 'a', 'c'), // they overlap
	of('q', 's', 'a', 'c'),            // falling
	of(-1, 3), of(-5, -2), of(-1, -1), // below all units
	of(0xD800, 0xD800), of(0xDFFF, 0xDFFF), of(0xD7FF, 0xE000), of(0xD000, 0xD800), of(0xDFFF, 0xE001), of(0, 0x10FFFF),
	of(0x110000, 0x110000), of(0x11007F, 0x110080), of(0x10FFFF, 0x110080), of(0x10FFFF, 0x110000), of(0xE000, 0x1100FF),
	of(0x110100, 0x110100), of(0x1100FF, 0x110100),
	of(math.MinInt, math.MaxInt), of(math.MaxInt, math.MinInt), of(math.MinInt, 5), of(5, math.MaxInt), of(math.MaxInt, math.MaxInt), of(math.MinInt, math.MinInt),
	of('a', 'c', math.MinInt, math.MaxInt), of('a', 'c', math.MaxInt, math.MaxInt),
	of('a'+1<<32, 'c'+1<<32),
	every(0, 513, 1, 1), slices.Concat(every(0, 512, 1, 1), of(firstRaw, lastRaw)), // too many ranges
}

func TestWhatIsNoSet(t *testing.T) { // P11.1
	long := slices.Repeat(three, 100)
	for _, bad := range noSets {
		if set.Valid(bad) {
			t.Fatalf("%x is a set", bad)
		}
		refused(t, list(bad))
		refused(t, list(bad, bad))
		for _, l := range [][]api.Set{three, long, list(units), list(nil)} {
			for _, at := range []int{0, len(l) / 2, len(l)} {
				refused(t, slices.Insert(slices.Clone(l), at, bad))
			}
		}
	}
}

func TestSetsThatJustMayBe(t *testing.T) { // P11.1
	for _, s := range []api.Set{
		nil, {}, units, of(0, 0), of('a', 'c', 'e', 'e'), of(0xD7FF, 0xD7FF, 0xE000, 0xE000), of(maxRune, maxRune, firstRaw, firstRaw), of(lastRaw, lastRaw),
		every(0, 512, 1, 1), every(0, 512, 2, 3),
	} {
		l := list(s)
		holds(t, l, probes(l))
	}
}

// P11.2

func TestOfNoSetsThereIsOneAtom(t *testing.T) { // P11.2
	for _, l := range [][]api.Set{nil, {}, {nil}, {{}}, {nil, {}, nil}, {units}, {units, units}, {units, nil}} {
		x := made(t, l)
		if x.Len() != 1 {
			t.Errorf("%s: Len is %d", short(l), x.Len())
		}
		hasSet(t, x, 0, units)
		if got := row(x, 0, 'a', 0xD7FF, 0xE000, 0xFFFD, maxRune, firstRaw, lastRaw); slices.Max(got) != 0 || slices.Min(got) != 0 {
			t.Errorf("%s: %d", short(l), got)
		}
	}
}

func TestWhatIsNoUnit(t *testing.T) { // P11.2
	none := []int{math.MinInt, math.MinInt + 1, -1 << 32, -1 << 31, -0x61, -2, -1, 0xD800, 0xD801, 0xDC00, 0xDFFE, 0xDFFF, 0x110000, 0x110001, 0x110061, 0x11007E, 0x11007F, 0x110100, 0x110101, 0x110180, 1 << 31, 1 << 32, 1<<32 + 'a', math.MaxInt - 1, math.MaxInt}
	for _, l := range [][]api.Set{nil, three, {units}, {of(0xD7FF, 0xD7FF, 0xE000, 0xE000, maxRune, maxRune, firstRaw, lastRaw)}, {every(0, 512, 1, 1)}} {
		x := made(t, l)
		for _, u := range none {
			if got := x.Of(u); got != -1 {
				t.Errorf("%s: Of(%x) is %d", short(l), u, got)
			}
		}
	}
}

func TestAtomsStandInTheOrderOfTheirLeastUnits(t *testing.T) { // P11.2
	// Whichever set stands first in the list, and whichever begins with less.
	for _, k := range []struct {
		l     []api.Set
		units []int
	}{
		{list(of('a', 'a'), of('b', 'b'), of('c', 'c')), []int{0, 'a', 'b', 'c'}},
		{list(of('c', 'c'), of('b', 'b'), of('a', 'a')), []int{0, 'a', 'b', 'c'}},
		{list(of(0, 0), of('a', 'a')), []int{0, 1, 'a'}},
		{list(of(0, 'z')), []int{0, 'z' + 1}},
		{list(of(lastRaw, lastRaw), of('x', 'x', firstRaw, firstRaw), of(maxRune, maxRune)), []int{0, 'x', maxRune, lastRaw}},
		{list(of('a', 'a', 'c', 'c'), of('b', 'b', 'd', 'd')), []int{0, 'a', 'b'}},
		{list(units, of(0xE000, maxRune), of(firstRaw, lastRaw)), []int{0, 0xE000, firstRaw}},
		{list(of(0, 0xD7FF, 0xE000, maxRune, firstRaw, lastRaw), of(2, 9), of(4, 6)), []int{0, 2, 4}},
	} {
		x := made(t, k.l)
		if x.Len() != len(k.units) {
			t.Errorf("%x: Len is %d, not %d", k.l, x.Len(), len(k.units))
		}
		for atom, least := range k.units {
			s, _ := x.Set(atom)
			if x.Of(least) != atom || len(s) == 0 || s[0].Lo != least {
				t.Errorf("%x: atom %d is %x, Of(%x) is %d", k.l, atom, s, least, x.Of(least))
			}
		}
	}
}

func TestEachUnitAnAtom(t *testing.T) { // P11.2
	var l []api.Set
	for u := range 3000 {
		l = append(l, of(u, u))
	}
	x := made(t, l)
	if x.Len() != 3001 || x.Of(3000) != 3000 || x.Of(lastRaw) != 3000 || x.Of(0xDEAD) != -1 {
		t.Errorf("%d; %d", x.Len(), x.Of(3000))
	}
	for u := range 3000 {
		if x.Of(u) != u || !x.In(u, u) || x.In(u, 2999-u) || x.In(3000, u) {
			t.Fatalf("Of(%d) is %d", u, x.Of(u))
		}
		hasSet(t, x, u, of(u, u))
	}
}

// As many atoms as some sets can make: each of 2^n of them is in other ones.
func TestAllSortsOfAtoms(t *testing.T) { // P11.2, P11.3
	const sorts = 10
	l := make([]api.Set, sorts)
	for n := range l {
		for u := range 1 << sorts {
			if u>>n&1 == 1 {
				l[n] = withMore(l[n], u, u)
			}
		}
	}
	w := holds(t, l, probes(l))
	if len(w.l) != 1<<sorts {
		t.Errorf("%d atoms", len(w.l))
	}
}

// P11.3

func TestAtomsOfManyRanges(t *testing.T) { // P11.3
	evens, later := every(0, 512, 1, 1), every(0x1000, 512, 1, 1)
	x := made(t, list(evens, later, of(0, 0x4000)))
	hasSet(t, x, 0, evens)
	if s, is := x.Set(1); !is || len(s) != 1024 || s[0] != (api.Range{Lo: 1, Hi: 1}) || s[511] != (api.Range{Lo: 1023, Hi: 0xFFF}) || s[1023] != (api.Range{Lo: 0x13FF, Hi: 0x4000}) {
		t.Errorf("%d ranges, %v", len(s), is)
	}
	hasSet(t, x, 2, later)
	hasSet(t, x, 3, of(0x4001, 0xD7FF, 0xE000, maxRune, firstRaw, lastRaw))
	var l []api.Set
	for n := range 20 {
		l = append(l, every(0x10000+n*0x1000, 512, 3, 2))
	}
	holds(t, l, probes(l))
	if s, is := made(t, l).Set(0); !is || len(s) != 20*512+3 {
		t.Errorf("%d ranges, %v", len(s), is)
	}
}

func TestRangesAreApartAtTheHoles(t *testing.T) { // P11.3
	x := made(t, list(of(0xD7FF, 0xD7FF, 0xE000, 0xE000, maxRune, maxRune, firstRaw, firstRaw)))
	hasSet(t, x, 0, of(0, 0xD7FE, 0xE001, 0x10FFFE, 0x110081, lastRaw))
	hasSet(t, x, 1, of(0xD7FF, 0xD7FF, 0xE000, 0xE000, maxRune, maxRune, firstRaw, firstRaw))
	x = made(t, list(of(0xD7FF, 0xD7FF), of(0xE000, 0xE000), of(maxRune, maxRune), of(firstRaw, firstRaw)))
	if got := row(x, 0xD7FE, 0xD7FF, 0xD800, 0xDFFF, 0xE000, 0xE001, maxRune, 0x110000, 0x11007F, firstRaw, lastRaw); !slices.Equal(got, []int{0, 1, -1, -1, 2, 0, 3, -1, -1, 4, 0}) {
		t.Errorf("%d", got)
	}
}

// Sets that end where others begin: ranges that touch are one, where no set tells the two apart.
func TestRangesThatTouchAreOne(t *testing.T) { // P11.3
	x := made(t, list(of('a', 'c', 'x', 'x'), of('d', 'f'), of('a', 'f')))
	hasSet(t, x, 1, of('a', 'c'))
	hasSet(t, x, 2, of('d', 'f'))
	hasSet(t, x, 3, of('x', 'x'))
	x = made(t, list(of('a', 'f'), of('a', 'c', 'e', 'f'), of('a', 'c', 'e', 'f')))
	hasSet(t, x, 1, of('a', 'c', 'e', 'f'))
	hasSet(t, x, 2, of('d', 'd'))
}

func TestNoSuchAtomAndNoSuchSet(t *testing.T) { // P11.3
	for _, l := range [][]api.Set{nil, three, {units}, slices.Repeat(list(units), 64), slices.Repeat(list(units), 200)} {
		x := made(t, l)
		wrong := []int{math.MinInt, math.MinInt + 1, -1 << 32, -64, -2, -1, 1000, 1 << 31, 1 << 32, math.MaxInt - 1, math.MaxInt}
		for _, atom := range slices.Concat(wrong, []int{x.Len(), x.Len() + 1}) {
			if s, is := x.Set(atom); is || s != nil {
				t.Errorf("%d sets: Set(%d) is %x, %v", len(l), atom, s, is)
			}
			for n := -1; n <= len(l)+1; n++ {
				if x.In(atom, n) {
					t.Errorf("%d sets: In(%d, %d)", len(l), atom, n)
				}
			}
		}
		for atom := range x.Len() {
			for _, n := range slices.Concat(wrong, []int{len(l), len(l) + 1, len(l) + 63, len(l) + 64}) {
				if x.In(atom, n) {
					t.Errorf("%d sets: In(%d, %d)", len(l), atom, n)
				}
			}
		}
	}
}

// However many sets there are, each one of them alone tells units apart.
func TestEachOfManySetsTells(t *testing.T) { // P11.2, P11.3
	for _, many := range []int{1, 2, 63, 64, 65, 127, 128, 129, 191, 193, 256, 257, 520, 1025} {
		for _, n := range []int{0, 1, many / 3, many / 2, many - 2, many - 1} {
			if n < 0 || n >= many {
				continue
			}
			l := slices.Repeat(list(of('a', 'b')), many)
			l[n] = of('b', 'c')
			w := holds(t, l, probes(l))
			if many > 1 && len(w.l) != 4 {
				t.Errorf("%d sets, the %d-th alone: %d atoms", many, n, len(w.l))
			}
		}
	}
}

// Units that are each in one set alone, or in all but one.
func TestOneOfManySets(t *testing.T) { // P11.3
	for _, many := range []int{5, 64, 65, 129, 300, 600} {
		for _, but := range []bool{false, true} {
			var l []api.Set
			for n := range many {
				s := of('a'+n, 'a'+n)
				if but {
					s, _ = set.Less(units, s)
				}
				l = append(l, s)
			}
			x := made(t, l)
			if x.Len() != many+1 {
				t.Fatalf("%d sets: %d atoms", many, x.Len())
			}
			for atom := range x.Len() {
				for n := range l {
					if x.In(atom, n) != (atom-1 == n) != but {
						t.Fatalf("%d sets, %v: In(%d, %d)", many, but, atom, n)
					}
				}
			}
		}
	}
}
