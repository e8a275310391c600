package atoms_test

import (
	"math/rand"
	"slices"
	"testing"

	"respell/api"
	"respell/atoms"
	"respell/set"
)

// What follows of the chapter's promises: P11.4, P11.5.

// lists are those that the laws are held against.
func lists() [][]api.Set {
	m := maker{rand.New(rand.NewSource(114))}
	all := [][]api.Set{
		nil, three, {units}, {nil}, {set.Runes(), set.Strays()}, slices.Repeat(three, 50),
		{every(0, 512, 1, 1), every(1, 512, 2, 1), every(3000, 300, 5, 5)},
	}
	for range 400 {
		all = append(all, m.list())
	}
	return all
}

// Every number is in Set of the atom that Of tells, and in no other one; the sets of all atoms together are all units.
func TestEachUnitIsInOneAtom(t *testing.T) { // P11.4
	for _, l := range [][]api.Set{nil, three, {units}, {of(0xD7FF, 0xD7FF, maxRune, maxRune), of('a', 0xE000-0x801, 0xE000, maxRune)}, {every(0, 512, 1, 1), every(1, 512, 2, 1)}} {
		x := made(t, l)
		told := make([]int, beyond)
		for atom := range x.Len() {
			s, _ := x.Set(atom)
			if len(s) == 0 {
				t.Errorf("%s: atom %d has no units", short(l), atom)
			}
			for _, r := range s {
				for u := r.Lo; u <= r.Hi; u++ {
					if told[u] != 0 {
						t.Fatalf("%s: %x is in atoms %d and %d", short(l), u, told[u]-1, atom)
					}
					told[u] = atom + 1
				}
			}
		}
		for u := range told {
			if x.Of(u) != told[u]-1 || unitByWords(u) != (told[u] > 0) {
				t.Fatalf("%s: Of(%x) is %d, and its Set is that of %d", short(l), u, x.Of(u), told[u]-1)
			}
		}
	}
}

func TestTheSetsOfAtomsFitTogether(t *testing.T) { // P11.3, P11.4
	for _, l := range lists() {
		x := made(t, l)
		count, least := 0, -1
		var all []api.Range
		for atom := range x.Len() {
			s, is := x.Set(atom)
			if !is || len(s) == 0 || s[0].Lo <= least {
				t.Fatalf("%s: Set(%d) is %s, %v", short(l), atom, short(list(s)), is)
			}
			least = s[0].Lo
			for i, r := range s {
				if r.Lo > r.Hi || i > 0 && r.Lo-s[i-1].Hi < 2 || !set.Valid(api.Set{r}) {
					t.Fatalf("%s: Set(%d) is %s", short(l), atom, short(list(s)))
				}
				if x.Of(r.Lo) != atom || x.Of(r.Hi) != atom || x.Of(r.Lo-1) == atom || x.Of(r.Hi+1) == atom {
					t.Fatalf("%s: Of about %x of atom %d: %d", short(l), r, atom, row(x, r.Lo-1, r.Lo, r.Hi, r.Hi+1))
				}
				count += r.Hi - r.Lo + 1
			}
			all = append(all, s...)
		}
		if got, err := set.Of(all); err != api.OK || !slices.Equal(got, units) || count != 1112192 {
			t.Fatalf("%s: all atoms have %d units: %x", short(l), count, got)
		}
	}
}

func TestInTellsWhatHasTells(t *testing.T) { // P11.4
	yes, no := 0, 0
	for _, l := range lists() {
		x := made(t, l)
		for _, u := range probes(l) {
			for n, s := range l {
				if x.In(x.Of(u), n) != set.Has(s, u) {
					t.Fatalf("%s: In(Of(%x), %d) is not %v", short(l), u, n, set.Has(s, u))
				}
				if set.Has(s, u) {
					yes++
				} else {
					no++
				}
			}
		}
	}
	if yes < 10000 || no < 10000 {
		t.Errorf("too tame: %d and %d", yes, no)
	}
}

// Two units are of one atom just if each set has both or neither.
func TestTwoUnitsOfOneAtom(t *testing.T) { // P11.2
	for _, l := range lists()[:80] {
		x := made(t, l)
		var some []int
		for i, u := range probes(l) {
			if unitByWords(u) && (i < 80 || i%37 == 0) {
				some = append(some, u)
			}
		}
		for _, u := range some {
			for _, v := range some {
				apart := slices.ContainsFunc(l, func(s api.Set) bool { return has(s, u) != has(s, v) })
				if (x.Of(u) == x.Of(v)) == apart {
					t.Fatalf("%s: %x and %x are of %d and %d", short(l), u, v, x.Of(u), x.Of(v))
				}
			}
		}
	}
}

// alike tells whether Of, Len and Set of two tables are the same.
func alike(x, y *atoms.Table, probes []int) bool {
	if x.Len() != y.Len() {
		return false
	}
	for _, u := range probes {
		if x.Of(u) != y.Of(u) {
			return false
		}
	}
	for atom := -1; atom <= x.Len(); atom++ {
		s, is := x.Set(atom)
		z, too := y.Set(atom)
		if is != too || !slices.Equal(s, z) {
			return false
		}
	}
	return true
}

func TestTheOrderOfTheSetsIsNotSeen(t *testing.T) { // P11.5
	m := rand.New(rand.NewSource(115))
	for _, l := range lists() {
		x, at := made(t, l), probes(l)
		order := m.Perm(len(l))
		mixed := make([]api.Set, len(l))
		for i, n := range order {
			mixed[i] = l[n]
		}
		y := made(t, mixed)
		if !alike(x, y, at) {
			t.Fatalf("%s: the order %d is seen", short(l), order)
		}
		for atom := range x.Len() {
			for i, n := range order {
				if x.In(atom, n) != y.In(atom, i) {
					t.Fatalf("%s: In(%d, %d) in the order %d", short(l), atom, i, order)
				}
			}
		}
		back := slices.Clone(l)
		slices.Reverse(back)
		if !alike(x, made(t, back), at) {
			t.Fatalf("%s: the order is seen", short(l))
		}
	}
}

func TestSetsThatStandThereTwiceAreNotSeen(t *testing.T) { // P11.5
	m := rand.New(rand.NewSource(116))
	for _, l := range lists() {
		x, at := made(t, l), probes(l)
		more := slices.Clone(l)
		for range 1 + m.Intn(5) {
			if len(l) > 0 {
				more = slices.Insert(more, m.Intn(len(more)+1), slices.Clone(l[m.Intn(len(l))]))
			}
		}
		for _, y := range [][]api.Set{more, slices.Concat(l, l), slices.Concat(l, l, l)} {
			if !alike(x, made(t, y), at) {
				t.Fatalf("%s: sets that stand there twice are seen: %s", short(l), short(y))
			}
		}
		twice := made(t, slices.Concat(l, l))
		for atom := range x.Len() {
			for n := range l {
				if twice.In(atom, n) != x.In(atom, n) || twice.In(atom, n+len(l)) != x.In(atom, n) {
					t.Fatalf("%s: In(%d, %d) of the set that stands there twice", short(l), atom, n)
				}
			}
		}
	}
}

// The set of no units, that of all units, and a set's complement tell nothing apart that was not told apart.
func TestSetsThatTellNothing(t *testing.T) { // P11.5
	for _, l := range lists() {
		x, at := made(t, l), probes(l)
		for _, s := range []api.Set{nil, {}, units} {
			if !alike(x, made(t, slices.Concat(list(s), l)), at) || !alike(x, made(t, slices.Concat(l, list(s))), at) {
				t.Fatalf("%s: %x is seen", short(l), s)
			}
		}
		turned := slices.Clone(l)
		for n, s := range l {
			other, err := set.Less(units, s)
			if err == api.OK {
				turned[n] = other
			}
		}
		if !alike(x, made(t, turned), at) {
			t.Fatalf("%s: what is out and what is in are told apart otherwise", short(l))
		}
	}
}

func TestOneSetMoreTellsNoFewerApart(t *testing.T) { // P11.5
	m := maker{rand.New(rand.NewSource(117))}
	grown := 0
	for _, l := range lists() {
		one := m.set(4)
		more := slices.Insert(slices.Clone(l), m.Intn(len(l)+1), one)
		x, y := made(t, l), made(t, more)
		was := map[int]int{} // by the atoms of the longer list
		for _, u := range probes(more) {
			now := y.Of(u)
			if atom, known := was[now]; known && atom != x.Of(u) {
				t.Fatalf("%s and %x: atom %d was %d and %d", short(l), one, now, atom, x.Of(u))
			}
			was[now] = x.Of(u)
		}
		if y.Len() < x.Len() || y.Len() > 2*x.Len() {
			t.Fatalf("%s and %x: %d atoms, they were %d", short(l), one, y.Len(), x.Len())
		}
		if y.Len() > x.Len() {
			grown++
		}
	}
	if grown < 100 {
		t.Errorf("too tame: %d", grown)
	}
}
