package set_test

import (
	"iter"
	"math"
	"slices"
	"testing"

	"respell/api"
	"respell/set"
)

// What holds everywhere: R3, R4, R5, R6.

func tell(seq iter.Seq[int], most int) []int {
	var out []int
	for u := range seq {
		out = append(out, u)
		if len(out) == most {
			break
		}
	}
	return out
}

var (
	walk   = of(0x61, 0x63, 0xD7FF, 0xD7FF, 0xE000, 0xE001, 0x10FFFF, 0x10FFFF, 0x110080, 0x110081)
	walked = []int{0x61, 0x62, 0x63, 0xD7FF, 0xE000, 0xE001, 0x10FFFF, 0x110080, 0x110081}
)

func TestAllIsNeverNil(t *testing.T) { // R6
	for _, s := range slices.Concat([]api.Set{nil, {}}, noSets) {
		seq := set.All(s)
		if seq == nil {
			t.Fatal("a nil iterator")
		}
		if l := tell(seq, -1); l != nil {
			t.Errorf("All(%x): %x", s, l)
		}
	}
}

func TestAllLeftEarlyAndGoneThroughAgain(t *testing.T) { // R6
	seq := set.All(walk)
	for most := 1; most <= len(walked); most++ {
		if l := tell(seq, most); !slices.Equal(l, walked[:most]) {
			t.Errorf("left after %d: %x", most, l)
		}
		calls := 0
		seq(func(int) bool { calls++; return calls < most })
		if calls != most {
			t.Errorf("it went on when it was left after %d: %d", most, calls)
		}
	}
	for range 2 {
		if l := tell(seq, -1); !slices.Equal(l, walked) {
			t.Errorf("again: %x", l)
		}
	}
}

func TestAllGoneThroughWithinItself(t *testing.T) { // R6
	seq := set.All(walk)
	i := 0
	for u := range seq {
		if u != walked[i] {
			t.Errorf("outside: %x", u)
		}
		if l := tell(seq, -1); !slices.Equal(l, walked) {
			t.Errorf("within: %x", l)
		}
		if l := tell(seq, i+1); !slices.Equal(l, walked[:i+1]) {
			t.Errorf("within and left early: %x", l)
		}
		i++
	}
	if i != len(walked) {
		t.Errorf("outside: %d units", i)
	}
	one, stopOne := iter.Pull(seq)
	two, stopTwo := iter.Pull(seq)
	defer stopOne()
	defer stopTwo()
	for _, x := range walked {
		u, _ := one()
		v, _ := two()
		if u != x || v != x {
			t.Errorf("side by side: %x, %x", u, v)
		}
	}
}

func TestAllTellsWhatWasHandedInThen(t *testing.T) { // R6
	s := slices.Clone(walk)
	seq := set.All(s)
	clear(s)
	if l := tell(seq, -1); !slices.Equal(l, walked) {
		t.Errorf("what the caller wrote later is seen: %x", l)
	}
	s = slices.Clone(walk)
	var l []int
	for u := range set.All(s) {
		l = append(l, u)
		for i := range s {
			s[i] = api.Range{Lo: 5, Hi: 4}
		}
	}
	if !slices.Equal(l, walked) {
		t.Errorf("what the caller wrote within is seen: %x", l)
	}
	bad := of(5, 4)
	seq = set.All(bad)
	bad[0].Hi = 9
	if l := tell(seq, -1); l != nil {
		t.Errorf("what was no set then: %x", l)
	}
	seq = set.All(walk)
	set.All(of(1, 9))
	if l := tell(seq, -1); !slices.Equal(l, walked) {
		t.Errorf("a later call is seen: %x", l)
	}
}

// answers is every call's answer that is a list, of the sets a and b.
func answers(a, b api.Set) []api.Set {
	var out []api.Set
	for _, call := range []two{set.Join, set.Meet, set.Less} {
		s, _ := call(a, b)
		out = append(out, s)
	}
	other, _ := set.Other(a)
	same, _ := set.Of(a)
	return append(out, other, same, set.Any(), set.Runes(), set.Strays())
}

func spoil(s api.Set) {
	s = s[:cap(s)]
	for i := range s {
		s[i] = api.Range{Lo: math.MinInt, Hi: math.MaxInt}
	}
}

func TestAnswersAreNewMemory(t *testing.T) { // R4
	for _, a := range sets {
		for _, b := range []api.Set{none, units, of(0x61, 0x63), sets[len(sets)-1]} {
			a, b := slices.Clone(a), slices.Clone(b)
			wasA, wasB := slices.Clone(a), slices.Clone(b)
			var want []api.Set
			first := answers(a, b)
			for _, s := range first {
				want = append(want, slices.Clone(s))
			}
			second := answers(a, b)
			for i, s := range first {
				spoil(s)
				for j, later := range first[i+1:] {
					if !slices.Equal(later, want[i+1+j]) {
						t.Errorf("answers %d and %d share memory", i, i+1+j)
					}
				}
			}
			for i, s := range answers(a, b) {
				if !slices.Equal(s, want[i]) || !slices.Equal(second[i], want[i]) {
					t.Errorf("what was written to answer %d is seen: %x, %x", i, s, second[i])
				}
			}
			if !slices.Equal(a, wasA) || !slices.Equal(b, wasB) {
				t.Errorf("an answer shares memory with what was handed in: %x, %x", a, b)
			}
		}
	}
}

// What is handed in stays as it is, in the list and in its spare room.
func TestWhatIsHandedInStaysAsItIs(t *testing.T) { // R4
	mark := api.Range{Lo: -7, Hi: -8}
	for _, s := range slices.Concat(sets, noSets, []api.Set{of(0x65, 0x66, 0x61, 0x64, 9, 3, -5, 2)}) {
		room := append(slices.Clone(s), mark, mark, mark)
		was := slices.Clone(room)
		a := room[:len(s)]
		for _, b := range []api.Set{of(0x61, 0x63), of(5, 4), a} {
			answers(a, b)
			answers(b, a)
		}
		set.Valid(a)
		set.Len(a)
		set.Has(a, 0x61)
		set.Place(a, 0x61)
		set.Nth(a, 1)
		tell(set.All(a), 5)
		if !slices.Equal(room, was) {
			t.Errorf("changed: %x, it was %x", room, was)
		}
	}
}

func TestNilAndEmptyAreTheSame(t *testing.T) { // R3
	for _, s := range []api.Set{nil, {}, of(1, 2)[:0]} {
		if !set.Valid(s) || set.Len(s) != 0 || set.Has(s, 0) {
			t.Errorf("%#v is the empty set", s)
		}
		if got, err := set.Of(s); len(got) != 0 || err != api.OK {
			t.Errorf("Of(%#v): %x, %d", s, got, err)
		}
		for _, k := range []struct {
			call two
			want api.Set
		}{{set.Join, of(1, 2)}, {set.Meet, nil}, {set.Less, nil}} {
			if got, err := k.call(s, of(1, 2)); !slices.Equal(got, k.want) || err != api.OK {
				t.Errorf("with %#v: %x, %d", s, got, err)
			}
		}
	}
}
