package atoms_test

import (
	"fmt"
	"math"
	"math/rand"
	"slices"
	"testing"

	"respell/api"
	"respell/atoms"
	"respell/set"
)

// What the chapter says, worked out anew: each number by itself is held against each range of each set.

const (
	maxRune  = 0x10FFFF
	firstRaw = 0x110080
	lastRaw  = 0x1100FF
	beyond   = 0x110110 // above all units
)

func of(n ...int) api.Set {
	var s api.Set
	for i := 0; i+1 < len(n); i += 2 {
		s = append(s, api.Range{Lo: n[i], Hi: n[i+1]})
	}
	return s
}

// every is n ranges of width units, with gap numbers between them.
func every(first, n, width, gap int) api.Set {
	var s api.Set
	for i := range n {
		lo := first + i*(width+gap)
		s = append(s, api.Range{Lo: lo, Hi: lo + width - 1})
	}
	return s
}

func list(l ...api.Set) []api.Set { return l }

var units = of(0, 0xD7FF, 0xE000, maxRune, firstRaw, lastRaw)

// edges are numbers at which something changes, whatever the sets are, and their neighbours.
var edges = []int{
	math.MinInt, math.MinInt + 1, -1 << 32, -0x110100, -2, -1, 0, 1,
	0xD7FE, 0xD7FF, 0xD800, 0xD801, 0xDBFF, 0xDC00, 0xDFFE, 0xDFFF, 0xE000, 0xE001,
	0x10FFFE, maxRune, 0x110000, 0x110001, 0x11007E, 0x11007F, firstRaw, 0x110081, 0x1100FE, lastRaw, 0x110100, 0x110101,
	1 << 31, 1 << 32, 1<<32 + 'a', math.MaxInt - 1, math.MaxInt,
}

func unitByWords(u int) bool { return has(units, u) }

func has(s api.Set, u int) bool {
	return slices.ContainsFunc(s, func(r api.Range) bool { return r.Lo <= u && u <= r.Hi })
}

// probes are all edges, and the ends of all ranges with their neighbours: rising, each once. From one to the next nothing changes but at a probe.
func probes(l []api.Set) []int {
	out := slices.Clone(edges)
	for _, s := range l {
		for _, r := range s {
			out = append(out, r.Lo-1, r.Lo, r.Lo+1, r.Hi-1, r.Hi, r.Hi+1)
		}
	}
	slices.Sort(out)
	return slices.Compact(out)
}

func wholeRow() []int {
	l := make([]int, beyond)
	for u := range l {
		l[u] = u
	}
	return slices.Concat([]int{math.MinInt, -1}, l, []int{math.MaxInt})
}

// byWords is what the chapter says of some sets: the atom of each probe, and the units of each atom, and the sets that it is in.
type byWords struct {
	of []int
	in [][]bool
	l  []api.Set
}

func workedOut(l []api.Set, probes []int) byWords {
	var w byWords
	known := map[string]int{}
	for i, u := range probes {
		if !unitByWords(u) {
			w.of = append(w.of, -1)
			continue
		}
		key, in := make([]byte, len(l)), make([]bool, len(l))
		for n, s := range l {
			if has(s, u) {
				key[n], in[n] = 1, true
			}
		}
		atom, is := known[string(key)]
		if !is {
			atom = len(known)
			known[string(key)] = atom
			w.in, w.l = append(w.in, in), append(w.l, nil)
		}
		w.of = append(w.of, atom)
		w.l[atom] = withMore(w.l[atom], u, probes[i+1]-1)
	}
	return w
}

// withMore is ranges and one more behind them.
func withMore(s api.Set, lo, hi int) api.Set {
	if n := len(s); n > 0 && s[n-1].Hi == lo-1 {
		s[n-1].Hi = hi
		return s
	}
	return append(s, api.Range{Lo: lo, Hi: hi})
}

// short tells of a list what can be read.
func short(l []api.Set) string {
	text := fmt.Sprintf("%x", l)
	return fmt.Sprintf("%d sets %s", len(l), text[:min(len(text), 200)])
}

func made(t *testing.T, l []api.Set) *atoms.Table {
	t.Helper()
	x, err := atoms.New(l)
	if x == nil || err != api.OK {
		t.Fatalf("New(%s): %v, %d", short(l), x, err)
	}
	return x
}

// holds holds a table against the words, at these probes.
func holds(t *testing.T, l []api.Set, probes []int) byWords {
	t.Helper()
	x, w := made(t, l), workedOut(l, probes)
	if x.Len() != len(w.l) {
		t.Fatalf("%s: Len is %d, not %d", short(l), x.Len(), len(w.l))
	}
	for i, u := range probes {
		if got := x.Of(u); got != w.of[i] {
			t.Fatalf("%s: Of(%x) is %d, not %d", short(l), u, got, w.of[i])
		}
	}
	for atom, want := range w.l {
		if s, is := x.Set(atom); !is || !slices.Equal(s, want) {
			t.Fatalf("%s: Set(%d) is %s, %v, not %s", short(l), atom, short(list(s)), is, short(list(want)))
		}
		for n, want := range w.in[atom] {
			if x.In(atom, n) != want {
				t.Fatalf("%s: In(%d, %d) is not %v", short(l), atom, n, want)
			}
		}
	}
	return w
}

// maker makes lists of sets, any of them.
type maker struct{ *rand.Rand }

func pick[T any](m maker, l ...T) T { return l[m.Intn(len(l))] }

// ends are units at which ranges begin and end, some of them side by side, and at the ends of all blocks.
var ends = []int{0, 1, 2, 5, 'a', 'b', 'c', 'd', 'e', 'x', 0x7F, 0x80, 0xD7FE, 0xD7FF, 0xE000, 0xE001, 0xFFFD, 0x10000, maxRune - 1, maxRune, firstRaw, firstRaw + 1, 0x1100C3, lastRaw - 1, lastRaw}

func (m maker) set(most int) api.Set {
	var l []api.Range
	for range m.Intn(most + 1) {
		lo := pick(m, ends...)
		l = append(l, api.Range{Lo: lo, Hi: pick(m, lo, lo, lo+1, lo+m.Intn(9), pick(m, ends...))})
	}
	s, err := set.Of(l)
	if err != api.OK {
		return nil
	}
	return s
}

// list is mostly a short one; at times long enough to go over words and pairs of words, or with sets that stand there twice.
func (m maker) list() []api.Set {
	n := pick(m, 0, 1, 2, 3, 3, 4, 5, 8, 12)
	if m.Intn(12) == 0 {
		n = pick(m, 63, 64, 65, 127, 128, 129, 200)
	}
	l := make([]api.Set, n)
	for i := range l {
		switch m.Intn(8) {
		case 0:
			l[i] = pick(m, nil, api.Set{}, set.Any(), set.Runes(), set.Strays())
		case 1:
			l[i] = slices.Clone(l[m.Intn(i+1)])
		default:
			l[i] = m.set(pick(m, 1, 2, 6))
		}
	}
	return l
}

func TestAnyListsByTheWords(t *testing.T) { // P11.2, P11.3, P11.4
	m := maker{rand.New(rand.NewSource(111))}
	lists, most, apart, greatest, alone := 3000, 0, 0, 0, 0
	for range lists {
		l := m.list()
		w := holds(t, l, probes(l))
		most = max(most, len(w.l))
		greatest = max(greatest, len(l))
		if len(w.l) == 1 {
			alone++
		}
		for _, s := range w.l {
			if len(s) > 4 {
				apart++
			}
		}
	}
	if most < 20 || apart < lists/3 || greatest < 200 || alone > lists/3 {
		t.Errorf("too tame: %d atoms at most, %d of many ranges, %d sets at most, %d lists of one atom", most, apart, greatest, alone)
	}
}

func TestAllNumbersByTheWords(t *testing.T) { // P11.2, P11.3, P11.4
	m := maker{rand.New(rand.NewSource(112))}
	row := wholeRow()
	lists := [][]api.Set{nil, list(units), list(nil, nil), list(of('a', 'f'), of('c', 'p'), nil), list(every(0, 512, 1, 1), every(2000, 512, 3, 7))}
	for range 6 {
		var l []api.Set
		for range 1 + m.Intn(5) {
			l = append(l, m.set(5))
		}
		lists = append(lists, l)
	}
	for _, l := range lists {
		holds(t, l, row)
	}
}

// Ranges that are many and anywhere, so that most sets cut most others.
func TestManyRangesByTheWords(t *testing.T) { // P11.2, P11.3, P11.4
	m := maker{rand.New(rand.NewSource(113))}
	for _, n := range []int{1, 2, 5, 20} {
		var l []api.Set
		for range n {
			var ranges []api.Range
			for range 200 {
				lo := m.Intn(beyond)
				ranges = append(ranges, api.Range{Lo: lo, Hi: lo + m.Intn(4000)})
			}
			s, err := set.Of(ranges)
			if err != api.OK {
				t.Fatal(err)
			}
			l = append(l, s)
		}
		holds(t, l, probes(l))
	}
}
