package utf_test

import (
	"iter"
	"slices"
	"testing"

	"respell/api"
	"respell/utf"
)

// What holds everywhere: R3, R4, R5, R6.

type told struct{ at, unit int }

func tell(seq iter.Seq2[int, int], most int) []told {
	var out []told
	for at, u := range seq {
		out = append(out, told{at, u})
		if len(out) == most {
			break
		}
	}
	return out
}

var walked = []told{{0, 'a'}, {1, 0xE9}, {3, stray + 0xE2}, {4, stray + 0x82}, {5, 0xFFFD}, {8, 0x1F600}, {12, stray + 0xC3}}

const walk = "aé\xE2\x82\uFFFD😀\xC3"

// ways are both iterators over walk, and what each of them gives.
func ways() map[string]struct {
	seq  iter.Seq2[int, int]
	want []told
} {
	turned := slices.Clone(walked)
	slices.Reverse(turned)
	return map[string]struct {
		seq  iter.Seq2[int, int]
		want []told
	}{"All": {utf.All(walk), walked}, "Back": {utf.Back(walk), turned}}
}

func TestIteratorsAreNeverNil(t *testing.T) { // R6
	for _, seq := range []iter.Seq2[int, int]{utf.All(""), utf.Back("")} {
		if seq == nil {
			t.Fatal("a nil iterator")
		}
		if l := tell(seq, -1); l != nil {
			t.Errorf("of the empty text: %v", l)
		}
	}
}

func TestIteratorsLeftEarlyAndGoneThroughAgain(t *testing.T) { // R6
	for name, w := range ways() {
		for most := 1; most <= len(w.want); most++ {
			if l := tell(w.seq, most); !slices.Equal(l, w.want[:most]) {
				t.Errorf("%s, left after %d: %v", name, most, l)
			}
		}
		for range 2 {
			if l := tell(w.seq, -1); !slices.Equal(l, w.want) {
				t.Errorf("%s, again: %v", name, l)
			}
		}
		calls := 0
		w.seq(func(int, int) bool { calls++; return calls < 3 })
		if calls != 3 {
			t.Errorf("%s went on when it was left: %d", name, calls)
		}
	}
}

func TestIteratorsGoneThroughWithinThemselves(t *testing.T) { // R6
	for name, w := range ways() {
		i := 0
		for at, u := range w.seq {
			if (told{at, u}) != w.want[i] {
				t.Errorf("%s, outside: %d, %x", name, at, u)
			}
			if l := tell(w.seq, -1); !slices.Equal(l, w.want) {
				t.Errorf("%s, within: %v", name, l)
			}
			if l := tell(w.seq, i+1); !slices.Equal(l, w.want[:i+1]) {
				t.Errorf("%s, within and left early: %v", name, l)
			}
			i++
		}
		if i != len(w.want) {
			t.Errorf("%s, outside: %d units", name, i)
		}
	}
}

func TestIteratorsPulledSideBySide(t *testing.T) { // R6
	for name, w := range ways() {
		one, stopOne := iter.Pull2(w.seq)
		two, stopTwo := iter.Pull2(w.seq)
		for _, x := range w.want {
			a, u, _ := one()
			b, v, _ := two()
			if (told{a, u}) != x || (told{b, v}) != x {
				t.Errorf("%s: %d %x, %d %x", name, a, u, b, v)
			}
		}
		stopOne()
		stopTwo()
	}
}

func TestCutIsNewMemory(t *testing.T) { // R4
	s := "aé\x80bc"
	l, m := utf.Cut(s), utf.Cut(s)
	for i := range l[:cap(l)] {
		l[:cap(l)][i] = -7
	}
	if want := []int{'a', 0xE9, stray + 0x80, 'b', 'c'}; !slices.Equal(m, want) || !slices.Equal(utf.Cut(s), want) {
		t.Errorf("what was written to one answer is seen at another: %x", m)
	}
}

func TestUnitsHandedInStayAsTheyAre(t *testing.T) { // R4
	room := []int{'a', stray + 0xC3, stray + 0xA9, 0xD800, -7, -8}
	was := slices.Clone(room)
	utf.Join(room[:3])
	utf.Proper(room[:3])
	utf.Join(room[:4])
	utf.Proper(room[:4])
	if !slices.Equal(room, was) {
		t.Errorf("changed: %x", room)
	}
	l := []int{'a', 'b'}
	s, _ := utf.Join(l)
	l[0] = 'x'
	if s != "ab" {
		t.Errorf("Join kept what was handed in: %q", s)
	}
}

func TestNothingIsNil(t *testing.T) { // R2, R3
	if l := utf.Cut(""); len(l) != 0 {
		t.Errorf("Cut of nothing: %x", l)
	}
	for _, l := range [][]int{nil, {}} {
		if s, err := utf.Join(l); s != "" || err != api.OK || !utf.Proper(l) {
			t.Errorf("of no units: %x, %d, %v", s, err, utf.Proper(l))
		}
	}
}
