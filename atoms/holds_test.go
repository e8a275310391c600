package atoms_test

import (
	"fmt"
	"math"
	"math/rand"
	"slices"
	"strings"
	"sync"
	"testing"

	"respell/api"
	"respell/atoms"
	"respell/set"
)

// What holds everywhere: R1, R2, R3, R4, R5.

func TestEveryCallEnds(t *testing.T) { // R1, R2
	numbers := []int{math.MinInt, math.MinInt + 1, -1, 0, 1, 'a', 0xD7FF, 0xD800, 0xE000, maxRune, 0x110000, firstRaw, lastRaw, 0x110100, math.MaxInt - 1, math.MaxInt}
	for _, a := range numbers {
		for _, b := range numbers {
			for _, l := range [][]api.Set{{of(a, b)}, {of(a, a, b, b)}, {units, of('a', 'c', a, b)}, {of(a, a), of(b, b)}, {nil, of(a, b), nil}} {
				if slices.ContainsFunc(l, func(s api.Set) bool { return !set.Valid(s) }) {
					refused(t, l)
				} else {
					holds(t, l, probes(l))
				}
			}
		}
	}
	x := made(t, three)
	for _, a := range numbers {
		if got := x.Of(a); (got >= 0) != unitByWords(a) {
			t.Errorf("Of(%x): %d", a, got)
		}
		s, is := x.Set(a)
		if is != (a >= 0 && a < 4) || !is && s != nil {
			t.Errorf("Set(%x): %x, %v", a, s, is)
		}
		for _, b := range numbers {
			if want := a == 1 && (b == 0); x.In(a, b) != want {
				t.Errorf("In(%x, %x) is not %v", a, b, want)
			}
		}
	}
}

func TestLongLists(t *testing.T) { // R1
	// As many sets as a pass can have, and more than 2^16.
	var l []api.Set
	for n := range 70000 {
		lo := n
		if lo >= 0xD800 {
			lo += 0x800
		}
		l = append(l, of(lo, lo))
	}
	x := made(t, l)
	if x.Len() != 70001 || x.Of(0xE000) != 0xD800 || !x.In(0xD800, 0xD800) || !x.In(69999, 69999) || x.In(69999, 69999-1<<16) || x.In(70000, 69999) || x.In(0, 70000) {
		t.Errorf("%d atoms, Of(E000) is %d", x.Len(), x.Of(0xE000))
	}
	refused(t, append(slices.Clone(l), of(1, 0)))
	var most []api.Set
	for n := range 256 {
		most = append(most, every(7*n, 512, 1+n, 1+n%7))
		if !set.Valid(most[n]) {
			most[n] = every(0x10000+7*n, 512, 1+n, 1+n%7)
		}
	}
	holdsSome(t, most)
}

// holdsSome holds a table against set.Has at some units, where all would be too many.
func holdsSome(t *testing.T, l []api.Set) {
	t.Helper()
	m := rand.New(rand.NewSource(118))
	x := made(t, l)
	for range 300 {
		u := m.Intn(0x50000)
		if !unitByWords(u) {
			continue
		}
		s, is := x.Set(x.Of(u))
		if !is || !has(s, u) {
			t.Fatalf("Set(Of(%x)) has it not", u)
		}
		for n := range l {
			if x.In(x.Of(u), n) != set.Has(l[n], u) {
				t.Fatalf("In(Of(%x), %d)", u, n)
			}
		}
	}
}

func TestNilAndEmptyAreTheSame(t *testing.T) { // R3
	x, y := made(t, nil), made(t, []api.Set{})
	if !alike(x, y, probes(nil)) || !alike(x, made(t, three[:0]), probes(nil)) {
		t.Error("no list, and one of no sets")
	}
	one, two := list(nil, of('a', 'c'), nil), list(api.Set{}, of('a', 'c'), of('a', 'b')[:0])
	if !alike(made(t, one), made(t, two), probes(one)) {
		t.Error("no set, and one of no ranges")
	}
	for _, l := range [][]api.Set{one, two} {
		if x := made(t, l); x.In(0, 0) || x.In(1, 0) || x.In(0, 2) || x.In(1, 2) || !x.In(1, 1) || x.In(0, 1) {
			t.Errorf("%x: In", l)
		}
	}
}

// answers is all that a table tells, as a text.
func answers(x *atoms.Table, probes []int, sets int) string {
	var text strings.Builder
	fmt.Fprintln(&text, x.Len(), row(x, probes...))
	for atom := -1; atom <= x.Len(); atom++ {
		s, is := x.Set(atom)
		fmt.Fprintln(&text, s, is)
		for n := -1; n <= sets; n++ {
			if x.In(atom, n) {
				fmt.Fprintln(&text, n)
			}
		}
	}
	return text.String()
}

// own is a list that shares no memory with l, with marked spare room in it and in each of its sets.
func own(l []api.Set) []api.Set {
	mark := api.Range{Lo: -7, Hi: -8}
	var out []api.Set
	for _, s := range l {
		room := append(slices.Clone(s), mark, mark, mark)
		out = append(out, room[:len(s)])
	}
	out = append(out, api.Set{mark}, api.Set{mark})
	return out[:len(l)]
}

// all is a list with the spare room of it and of all its sets.
func all(l []api.Set) string {
	var rooms []api.Set
	for _, s := range l[:len(l)+2] {
		rooms = append(rooms, s[:cap(s)])
	}
	return fmt.Sprint(rooms)
}

func TestWhatIsHandedInStaysAsItIs(t *testing.T) { // R4
	for _, l := range slices.Concat(lists()[:100], [][]api.Set{{of(1, 0)}, {units, of('c', 'a')}, {every(0, 513, 1, 1)}}) {
		mine := own(l)
		was := all(mine)
		if x, err := atoms.New(mine); err == api.OK {
			answers(x, probes(l), len(l))
		}
		if now := all(mine); now != was {
			t.Fatalf("%s: it was changed", short(l))
		}
	}
}

func TestWhatIsHandedInIsNotKept(t *testing.T) { // R4
	for _, l := range lists()[:100] {
		mine, at := own(l), probes(l)
		x := made(t, mine)
		want := answers(made(t, l), at, len(l))
		for _, s := range mine {
			spoil(s)
		}
		if answers(x, at, len(l)) != want {
			t.Fatalf("%s: what was written into the sets later is seen", short(l))
		}
		for n := range mine {
			mine[n] = of('m', 'n')
		}
		if answers(x, at, len(l)) != want {
			t.Fatalf("%s: what was written into the list later is seen", short(l))
		}
	}
}

func spoil(s api.Set) {
	s = s[:cap(s)]
	for i := range s {
		s[i] = api.Range{Lo: math.MinInt, Hi: math.MaxInt}
	}
}

func TestAnswersAreTheCallers(t *testing.T) { // R4
	for _, l := range lists()[:100] {
		mine, at := own(l), probes(l)
		x, y := made(t, mine), made(t, mine)
		want, was := answers(x, at, len(l)), all(mine)
		var first, second []api.Set
		for atom := range x.Len() {
			s, _ := x.Set(atom)
			z, _ := x.Set(atom)
			first, second = append(first, s), append(second, z)
		}
		told := fmt.Sprint(second)
		for i, s := range first {
			rest := fmt.Sprint(first[i+1:])
			spoil(s)
			if fmt.Sprint(first[i+1:]) != rest {
				t.Fatalf("%s: Set(%d) shares memory with that of another atom", short(l), i)
			}
		}
		if fmt.Sprint(second) != told || answers(x, at, len(l)) != want || answers(y, at, len(l)) != want || all(mine) != was {
			t.Fatalf("%s: what was written to an answer is seen", short(l))
		}
	}
}

func TestOneAnswer(t *testing.T) { // R5
	some := lists()[:60]
	var tables []*atoms.Table
	var want []string
	for _, l := range some {
		x := made(t, l)
		tables, want = append(tables, x), append(want, answers(x, probes(l), len(l)))
		atoms.New(list(of(1, 0)))
	}
	for i, l := range some {
		for range 2 {
			if answers(tables[i], probes(l), len(l)) != want[i] || answers(made(t, l), probes(l), len(l)) != want[i] {
				t.Fatalf("%s: other calls are seen", short(l))
			}
		}
	}
}

func TestTablesAreAskedSideBySide(t *testing.T) { // R5
	some := lists()[:20]
	var group sync.WaitGroup
	for _, l := range some {
		x, at := made(t, l), probes(l)
		want := answers(x, at, len(l))
		for range 4 {
			group.Go(func() {
				y, err := atoms.New(l)
				if err != api.OK || answers(x, at, len(l)) != want || answers(y, at, len(l)) != want {
					t.Errorf("%s: asked side by side", short(l))
				}
			})
		}
	}
	group.Wait()
}
