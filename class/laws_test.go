package class_test

import (
	"slices"
	"testing"

	"respell/api"
	"respell/class"
	"respell/set"
)

// What follows of the chapter's promises: P3.3.

func TestEachSetIsValid(t *testing.T) { // P3.3
	for _, name := range class.Names() {
		s := must(t, name)
		if !set.Valid(s) || len(s) == 0 {
			t.Errorf("%q: %x is no set of units", name, s)
		}
		if same, err := set.Of(s); !slices.Equal(same, s) || err != api.OK {
			t.Errorf("%q: %x, of its ranges: %x, %d", name, s, same, err)
		}
	}
}

func TestNoUnitIsLowerAndUpper(t *testing.T) { // P3.3
	both, err := set.Meet(must(t, "lower"), must(t, "upper"))
	if len(both) != 0 || err != api.OK {
		t.Errorf("in both: %x, %d", both, err)
	}
}

func TestThereAndBack(t *testing.T) { // P3.3
	for _, p := range pairs() {
		if u := class.Lower(class.Upper(p.small)); u != p.small {
			t.Errorf("Lower(Upper(%x)): %x", p.small, u)
		}
		if u := class.Upper(class.Lower(p.great)); u != p.great {
			t.Errorf("Upper(Lower(%x)): %x", p.great, u)
		}
	}
}

func TestNobodyElseMoves(t *testing.T) { // P3.3
	great, small := map[int]bool{}, map[int]bool{}
	for _, p := range pairs() {
		great[p.great], small[p.small] = true, true
	}
	for u := -0x100; u < beyond; u++ {
		if moves := class.Lower(u) != u; moves != great[u] {
			t.Errorf("Lower(%x): %x", u, class.Lower(u))
		}
		if moves := class.Upper(u) != u; moves != small[u] {
			t.Errorf("Upper(%x): %x", u, class.Upper(u))
		}
	}
}

func TestLettersAreInTheirSets(t *testing.T) { // P3.3
	lower, upper := must(t, "lower"), must(t, "upper")
	for _, p := range pairs() {
		if !set.Has(upper, p.great) || !set.Has(lower, p.small) {
			t.Errorf("%x and %x are in upper and lower", p.great, p.small)
		}
	}
	for u := range set.All(upper) {
		if class.Lower(u) == u {
			t.Errorf("%x is in upper and has no partner", u)
		}
	}
	var alone []int
	for u := range set.All(lower) {
		if class.Upper(u) == u {
			alone = append(alone, u)
		}
	}
	if !slices.Equal(alone, []int{0xDF, 0xFF, 0x3C2}) {
		t.Errorf("in lower without a partner: %x", alone)
	}
}

// Names that say the same as a set of the layer below, or as some of the others together.
func TestSetsThatHangTogether(t *testing.T) { // P3.1
	for _, k := range []struct {
		name string
		want api.Set
	}{{"any", set.Any()}, {"rune", set.Runes()}, {"stray", set.Strays()}} {
		if s := must(t, k.name); !slices.Equal(s, k.want) {
			t.Errorf("%q: %x, want %x", k.name, s, k.want)
		}
	}
	for _, k := range []struct{ whole, one, rest string }{{"any", "rune", "stray"}, {"any", "ascii", "other"}, {"alnum", "alpha", "digit"}, {"graph", "alnum", "punct"}, {"ascii", "cntrl", "print"}} {
		one, rest := must(t, k.one), must(t, k.rest)
		if s, err := set.Join(one, rest); !slices.Equal(s, must(t, k.whole)) || err != api.OK {
			t.Errorf("%q and %q: %x, %d", k.one, k.rest, s, err)
		}
		if s, err := set.Meet(one, rest); len(s) != 0 || err != api.OK {
			t.Errorf("in %q and %q: %x, %d", k.one, k.rest, s, err)
		}
	}
}
