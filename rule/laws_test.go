package rule_test

import (
	"math/rand"
	"slices"
	"testing"

	"respell/api"
	"respell/rule"
	"respell/utf"
)

// What follows of the chapter's promises: P7.5, P7.6.

func TestWhatIsLaidAreUnits(t *testing.T) { // P7.5
	m := maker{rand.New(rand.NewSource(75)), 0}
	sizes := map[int]int{}
	for range 5000 {
		r := m.rule()
		checks(t, r, api.OK)
		done, back := rule.Lays(r, m.key(r.Key))
		sizes[len(done)+len(back)]++
		if len(done) != r.Cursor || len(done)+len(back) != len(r.Result) {
			t.Errorf("%v: %x, %x", r, done, back)
		}
		for _, u := range slices.Concat(done, back) {
			if !unitByWords(u) {
				t.Errorf("%v: %x is no unit", r, u)
			}
		}
	}
	if len(sizes) < 6 {
		t.Errorf("the results are too tame: %v", sizes)
	}
}

func TestWhatIsLaidNeedNotBeProper(t *testing.T) { // P7.5
	r := api.Rule{Key: row(a), Result: pieces(unit(0x1100C3), unit(0x1100A9)), Cursor: 2}
	lays(t, r, letters("a"), []int{0x1100C3, 0x1100A9}, nil)
	if done, _ := rule.Lays(r, letters("a")); utf.Proper(done) {
		t.Errorf("%x are proper", done)
	}
	r = api.Rule{Key: row(strays, strays), Result: pieces(again(1), again(0)), Cursor: 1}
	lays(t, r, []int{0x1100A9, 0x1100C3}, []int{0x1100C3}, []int{0x1100A9})
}

// pairOf is the unit that a pair of two sets makes of a unit.
func pairOf(t *testing.T, from, to api.Set, u int) int {
	t.Helper()
	done, back := rule.Lays(api.Rule{Key: row(from), Result: pieces(paired(0, to)), Cursor: 1}, []int{u})
	if len(done) != 1 || len(back) != 0 {
		t.Fatalf("%x over %x to %x: %x, %x", u, from, to, done, back)
	}
	return done[0]
}

func oneToOne(t *testing.T, from, to api.Set) {
	t.Helper()
	made := map[int]int{}
	for _, u := range units(from) {
		v := pairOf(t, from, to, u)
		if w, is := made[v]; is {
			t.Errorf("of %x and %x comes %x", w, u, v)
		}
		made[v] = u
		if w := pairOf(t, to, from, v); w != u {
			t.Errorf("of %x comes %x, and of that %x", u, v, w)
		}
	}
	if len(made) != len(units(to)) {
		t.Errorf("%d units of %x come of %x", len(made), to, from)
	}
}

func TestPairsAreOneToOne(t *testing.T) { // P7.6
	m := maker{rand.New(rand.NewSource(76)), 0}
	for range 1000 {
		n := 1 + m.Intn(len(crowd))
		oneToOne(t, m.sized(n), m.sized(n))
	}
	for _, x := range [][2]api.Set{
		{every(0, 512), every(0x10FC00, 512)}, {every(1, 512), of(0x1000, 0x11FF)}, {of(0xD700, 0xD7FF, 0xE000, 0xE0FF), every(7, 512)}, {strays, of(0, 127)}, {every(firstRaw, 64), of(0xD7FF, 0xD7FF, 0xE000, 0xE03E)}, {of(0x10FFF0, maxRune, firstRaw, firstRaw+15), of(0, 31)},
	} {
		oneToOne(t, x[0], x[1])
		oneToOne(t, x[1], x[0])
		oneToOne(t, x[0], x[0])
	}
}

func TestPairsOfGreatSetsComeBack(t *testing.T) { // P7.6
	from, to := of(0, 0xD7FF, 0xE000, maxRune, firstRaw, lastRaw-1), of(1, 0xD7FF, 0xE000, maxRune, firstRaw, lastRaw)
	last := -1
	for i, u := range units(from) {
		if i%997 > 1 && u != 0xD7FE && u != 0xD7FF && u != 0xE000 && u < maxRune {
			continue
		}
		v := pairOf(t, from, to, u)
		if v <= last || pairOf(t, to, from, v) != u || pairOf(t, all, all, u) != u {
			t.Errorf("of %x comes %x", u, v)
		}
		last = v
	}
}
