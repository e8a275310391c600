package set_test

import (
	"math"
	"slices"
	"testing"

	"respell/api"
	"respell/set"
	"respell/utf"
)

type two = func(a, b api.Set) (api.Set, api.Errno)

func collect(s api.Set) []int {
	var l []int
	for u := range set.All(s) {
		l = append(l, u)
	}
	return l
}

func check(t *testing.T, what string, got api.Set, err api.Errno, want api.Set) {
	t.Helper()
	wanted := api.OK
	if len(want) > api.MaxRanges {
		want, wanted = nil, api.ErrSetMany
	}
	if !slices.Equal(got, want) || err != wanted {
		t.Errorf("%s: %x, %d; want %x, %d", what, got, err, want, wanted)
	}
}

func TestValidOfSets(t *testing.T) { // P2.1
	for _, s := range sets {
		if !set.Valid(s) {
			t.Errorf("%x is a set", s)
		}
	}
	for _, s := range noSets {
		if set.Valid(s) {
			t.Errorf("%x is no set", s)
		}
	}
}

func TestValidExamples(t *testing.T) { // P2.1
	for i, k := range []struct {
		s  api.Set
		is bool
	}{
		{nil, true}, {api.Set{}, true}, {of(0x61, 0x63), true}, {of(0x61, 0x63, 0x64, 0x65), false}, {of(0x61, 0x63, 0x65, 0x65), true}, {of(0x63, 0x61), false},
		{of(0, 0x10FFFF), false}, {of(0, 0xD7FF, 0xE000, 0x10FFFF), true}, {of(0x10FFFF, 0x110080), false}, {of(0x110080, 0x1100FF), true},
		{of(0xD7FF, 0xD7FF, 0xE000, 0xE000), true}, {of(0x10FFFF, 0x10FFFF, 0x110080, 0x110080), true},
		{every(0, 512, 1, 1), true}, {every(0, 513, 1, 1), false},
	} {
		if set.Valid(k.s) != k.is {
			t.Errorf("%d: Valid(%x) is not %v", i, k.s, k.is)
		}
	}
}

func TestValidOfOneRange(t *testing.T) { // P2.1
	// below tells how many units are below a number.
	below := func(n int) int {
		n = min(max(n, 0), beyond)
		return min(n, 0xD800) + min(max(n-0xE000, 0), 0x102000) + min(max(n-0x110080, 0), 0x80)
	}
	for _, lo := range edges {
		for _, hi := range edges {
			far := lo < 0 || hi >= beyond
			is := lo <= hi && !far && below(hi+1)-below(lo) == hi-lo+1
			if set.Valid(of(lo, hi)) != is {
				t.Errorf("Valid(%x-%x) is not %v", lo, hi, is)
			}
		}
	}
}

func TestValidOfTwoRanges(t *testing.T) { // P2.1
	for _, a := range edges {
		for _, b := range edges {
			s := of(a, a, b, b)
			is := unitByWords(a) && unitByWords(b) && b >= a+2
			if set.Valid(s) != is {
				t.Errorf("Valid(%x) is not %v", s, is)
			}
			three := slices.Concat(of(0, 0), s)
			if set.Valid(three) != (is && a >= 2) {
				t.Errorf("Valid(%x) is not %v", three, is && a >= 2)
			}
		}
	}
}

func TestOfExamples(t *testing.T) { // P2.2
	for _, k := range []struct{ l, want api.Set }{
		{nil, nil}, {of(), nil},
		{of(0x65, 0x66, 0x61, 0x64), of(0x61, 0x66)},
		{of(0xD700, 0xE001), of(0xD700, 0xD7FF, 0xE000, 0xE001)},
		{of(-5, 2, 9, 3), of(0, 2)},
		{of(0x10FFF0, 0x110090), of(0x10FFF0, 0x10FFFF, 0x110080, 0x110090)},
		{of(0x61, 0x70, 0x62, 0x63), of(0x61, 0x70)},
		{of(0x62, 0x63, 0x61, 0x70, 0x72, 0x72), of(0x61, 0x70, 0x72, 0x72)},
		{of(0x61, 0x61, 0x61, 0x61), of(0x61, 0x61)},
		{of(0xD800, 0xDFFF, 0x110000, 0x11007F, 0x110100, 0x110200, -3, -1), nil},
		{of(math.MinInt, math.MaxInt), units},
		{of(math.MaxInt, math.MinInt), nil},
		{of(math.MinInt, 7, 9, math.MaxInt), of(0, 7, 9, 0xD7FF, 0xE000, 0x10FFFF, 0x110080, 0x1100FF)},
		{of(math.MaxInt, math.MaxInt, math.MinInt, math.MinInt, 1<<32+0x61, 1<<32+0x63), nil},
		{of(0xE000, 0xE000, 0xD7FF, 0xD7FF), of(0xD7FF, 0xD7FF, 0xE000, 0xE000)},
		{of(0x110080, 0x110080, 0x10FFFF, 0x10FFFF), of(0x10FFFF, 0x10FFFF, 0x110080, 0x110080)},
	} {
		s, err := set.Of(k.l)
		check(t, "Of", s, err, k.want)
	}
}

func TestOfOneRangeWithAnyEnds(t *testing.T) { // P2.2
	for _, lo := range edges {
		for _, hi := range edges {
			l := of(lo, hi)
			s, err := set.Of(l)
			check(t, "Of", s, err, crowdOf(l).ranges())
		}
	}
}

// shuffled is a list in another order, the same for the same seed.
func shuffled(l []api.Range, seed uint32) []api.Range {
	out := slices.Clone(l)
	for i := len(out) - 1; i > 0; i-- {
		seed = seed*1664525 + 1013904223
		j := int(seed>>8) % (i + 1)
		out[i], out[j] = out[j], out[i]
	}
	return out
}

func TestOfRangesInAnyOrder(t *testing.T) { // P2.2, P2.7
	for i, a := range sets {
		b := sets[(i*7+3)%len(sets)]
		all := slices.Concat(a, b, of(9, 3, -4, -1, 0xD900, 0xDA00, 1<<40, 1<<41))
		want := crowdOf(all).ranges()
		for seed := range uint32(4) {
			s, err := set.Of(shuffled(all, seed))
			check(t, "Of", s, err, want)
		}
	}
}

func TestOfManyRanges(t *testing.T) { // P2.2
	for _, n := range []int{511, 512, 513, 514, 2000} {
		want := every(7, n, 1, 1)
		s, err := set.Of(shuffled(want, uint32(n)))
		check(t, "Of", s, err, want)
	}
	// Many that are handed in may be few: all touch, or most of them have no unit.
	s, err := set.Of(shuffled(every(0, 5000, 2, 0), 1))
	check(t, "Of of ranges that touch", s, err, of(0, 9999))
	s, err = set.Of(slices.Concat(every(0x110100, 600, 1, 1), every(-3000, 600, 1, 1), every(0xD800, 600, 1, 1), of(3, 3)))
	check(t, "Of of ranges without units", s, err, of(3, 3))
	// 511 ranges, and one over the numbers that are no runes: 512 or 513 ranges.
	l := every(0, 511, 1, 1)
	s, err = set.Of(append(l[:510:510], of(0xD000, 0xF000)...))
	check(t, "Of", s, err, append(l[:510:510], of(0xD000, 0xD7FF, 0xE000, 0xF000)...))
	s, err = set.Of(append(l[:511:511], of(0xD000, 0xF000)...))
	check(t, "Of", s, err, every(0, 513, 1, 1))
}

func TestOfSetIsTheSet(t *testing.T) { // P2.7
	for _, s := range sets {
		got, err := set.Of(s)
		check(t, "Of", got, err, s)
	}
}

func TestHas(t *testing.T) { // P2.3
	for _, s := range sets {
		in := crowdOf(s)
		for u := -3; u < beyond; u++ {
			if is := u >= 0 && in[u]; set.Has(s, u) != is {
				t.Fatalf("Has(%x, %x) is not %v", s, u, is)
			}
			if u > 2000 && u < 0xD700 || u > 0xE200 && u < 0x10FF00 {
				u += 96
			}
		}
		for _, u := range edges {
			if is := u >= 0 && u < beyond && in[u]; set.Has(s, u) != is {
				t.Errorf("Has(%x, %x) is not %v", s, u, is)
			}
		}
	}
}

func TestLenPlaceNth(t *testing.T) { // P2.3, P2.7
	for _, s := range sets {
		l := crowdOf(s).list()
		if n := set.Len(s); n != len(l) {
			t.Errorf("Len(%x): %d, want %d", s, n, len(l))
		}
		step := 1 + len(l)/3000
		for n := 0; n < len(l); n += step {
			if u, is := set.Nth(s, n); u != l[n] || !is {
				t.Fatalf("Nth(%x, %d): %x, %v", s, n, u, is)
			}
			if p, is := set.Place(s, l[n]); p != n || !is {
				t.Fatalf("Place(%x, %x): %d, %v", s, l[n], p, is)
			}
		}
		for _, n := range []int{len(l), len(l) + 1, -1, -2, math.MaxInt, math.MinInt, 1 << 32, -1 << 32} {
			if u, is := set.Nth(s, n); u != 0 || is {
				t.Errorf("Nth(%x, %d): %x, %v", s, n, u, is)
			}
		}
		for _, u := range edges {
			n, in := slices.BinarySearch(l, u)
			if !in {
				n = 0
			}
			if p, is := set.Place(s, u); p != n || is != in {
				t.Errorf("Place(%x, %x): %d, %v; want %d, %v", s, u, p, is, n, in)
			}
		}
	}
}

func TestLastUnitOfEachSet(t *testing.T) { // P2.3
	for _, s := range sets[1:] {
		last := s[len(s)-1].Hi
		n := set.Len(s) - 1
		if u, is := set.Nth(s, n); u != last || !is {
			t.Errorf("Nth(%x, %d): %x, %v", s, n, u, is)
		}
		if p, is := set.Place(s, last); p != n || !is {
			t.Errorf("Place(%x, %x): %d, %v", s, last, p, is)
		}
	}
}

func TestPlaceAndNthExamples(t *testing.T) { // P2.3
	s := of(0x61, 0x63, 0x71, 0x71)
	if n, is := set.Place(s, 0x71); n != 3 || !is {
		t.Error("Place of 71:", n, is)
	}
	if n, is := set.Place(s, 0x64); n != 0 || is {
		t.Error("Place of 64:", n, is)
	}
	if u, is := set.Nth(s, 3); u != 0x71 || !is {
		t.Error("Nth of 3:", u, is)
	}
	for _, n := range []int{4, -1} {
		if u, is := set.Nth(s, n); u != 0 || is {
			t.Error("Nth", n, u, is)
		}
	}
}

func TestOfWhatIsNoSetNothingIsTold(t *testing.T) { // P2.3
	for _, s := range noSets {
		if n := set.Len(s); n != 0 {
			t.Errorf("Len(%x): %d", s, n)
		}
		if l := collect(s); l != nil {
			t.Errorf("All(%x): %x", s, l)
		}
		for _, u := range slices.Concat(edges, []int{0x65, 0x71, 4, 5}) {
			if set.Has(s, u) {
				t.Errorf("Has(%x, %x)", s, u)
			}
			if n, is := set.Place(s, u); n != 0 || is {
				t.Errorf("Place(%x, %x): %d, %v", s, u, n, is)
			}
			if v, is := set.Nth(s, u); v != 0 || is {
				t.Errorf("Nth(%x, %d): %x, %v", s, u, v, is)
			}
		}
	}
}

func TestTwoSets(t *testing.T) { // P2.4, P2.7, P2.8
	var crowds []crowd
	for _, s := range sets {
		crowds = append(crowds, crowdOf(s))
	}
	calls := []struct {
		name string
		call two
		is   func(u int, inA, inB bool) bool
	}{
		{"Join", set.Join, func(_ int, a, b bool) bool { return a || b }},
		{"Meet", set.Meet, func(_ int, a, b bool) bool { return a && b }},
		{"Less", set.Less, func(_ int, a, b bool) bool { return a && !b }},
	}
	for i, a := range sets {
		for j, b := range sets {
			if (i+3*j)%5 != 0 && i != j { // the reckoning unit by unit takes its time: a part of all pairs
				continue
			}
			for _, c := range calls {
				s, err := c.call(a, b)
				check(t, c.name, s, err, merge(crowds[i], crowds[j], c.is).ranges())
			}
			join, err := set.Join(a, b)
			meet, errMeet := set.Meet(a, b)
			if err == api.OK && errMeet == api.OK && set.Len(join)+set.Len(meet) != set.Len(a)+set.Len(b) {
				t.Errorf("Len of Join and of Meet, of %x and %x: %d, %d", a, b, set.Len(join), set.Len(meet))
			}
		}
	}
}

func TestTwoSetsExamples(t *testing.T) { // P2.4
	for _, k := range []struct {
		name       string
		call       two
		a, b, want api.Set
	}{
		{"Join", set.Join, of(0x61, 0x63), of(0x64, 0x64), of(0x61, 0x64)},
		{"Join", set.Join, of(0xE000, 0xE000), of(0xD7FF, 0xD7FF), of(0xD7FF, 0xD7FF, 0xE000, 0xE000)},
		{"Join", set.Join, of(0x110080, 0x110081), of(0x10FFFF, 0x10FFFF), of(0x10FFFF, 0x10FFFF, 0x110080, 0x110081)},
		{"Meet", set.Meet, of(0x61, 0x66), of(0x63, 0x70), of(0x63, 0x66)},
		{"Meet", set.Meet, of(0x61, 0x63), of(0x64, 0x66), nil},
		{"Less", set.Less, of(0x61, 0x66), of(0x63, 0x64), of(0x61, 0x62, 0x65, 0x66)},
		{"Less", set.Less, units, strays, runes},
		{"Less", set.Less, units, runes, strays},
		{"Less", set.Less, none, units, nil},
	} {
		s, err := k.call(k.a, k.b)
		check(t, k.name, s, err, k.want)
	}
}

func TestOther(t *testing.T) { // P2.4, P2.8
	for _, a := range sets {
		s, err := set.Other(a)
		in := crowdOf(a)
		check(t, "Other", s, err, merge(in, in, func(u int, is, _ bool) bool { return runeByWords(u) && !is }).ranges())
	}
	s, err := set.Other(of(0, 0x60))
	check(t, "Other of 0-60", s, err, of(0x61, 0xD7FF, 0xE000, 0x10FFFF))
	s, err = set.Other(strays)
	check(t, "Other of the strays", s, err, runes)
	s, err = set.Other(units)
	check(t, "Other of all units", s, err, nil)
	s, err = set.Other(nil)
	check(t, "Other of none", s, err, runes)
}

func TestOtherOfOther(t *testing.T) { // P2.8
	for _, a := range sets {
		a, _ = set.Meet(a, runes)
		s, err := set.Other(a)
		if err != api.OK {
			continue
		}
		s, err = set.Other(s)
		check(t, "Other of Other", s, err, a)
	}
}

func TestOrAndNot(t *testing.T) { // P2.8
	for _, a := range sets {
		for _, b := range sets {
			a, _ = set.Meet(a, runes)
			b, _ = set.Meet(b, runes)
			notA, e1 := set.Other(a)
			notB, e2 := set.Other(b)
			join, e3 := set.Join(a, b)
			if e1 != api.OK || e2 != api.OK || e3 != api.OK {
				continue
			}
			left, eLeft := set.Other(join)
			right, eRight := set.Meet(notA, notB)
			if !slices.Equal(left, right) || eLeft != eRight {
				t.Errorf("not (%x or %x): %x, %x", a, b, left, right)
			}
			less, eLess := set.Less(a, b)
			both, eBoth := set.Meet(a, notB)
			if !slices.Equal(less, both) || eLess != eBoth {
				t.Errorf("%x and not %x: %x, %x", a, b, less, both)
			}
		}
	}
}

// At 512 ranges there is a set, at 513 ErrSetMany, in each call.
func TestMostRanges(t *testing.T) { // P2.4
	odd := every(1, 512, 1, 1)
	for _, k := range []struct {
		name string
		call two
		a, b api.Set
		n    int
	}{
		{"Join", set.Join, odd[:256], odd[256:], 512},
		{"Join", set.Join, odd, of(0x5000, 0x5000), 513},
		{"Join", set.Join, odd, of(2, 2, 0x5000, 0x5000), 512}, // 2 makes one of two
		{"Join", set.Join, odd, every(0x1000, 512, 1, 1), 1024},
		{"Join", set.Join, odd, every(2, 511, 1, 1), 1},
		{"Meet", set.Meet, every(0, 512, 2, 1), units, 512},
		// A range of 4 and one of 2 meet, and the last of the 4 and the next one's first: two each.
		{"Meet", set.Meet, every(0, 256, 4, 1), every(0, 512, 2, 1), 0},
		{"Meet", set.Meet, every(0, 256, 3, 3), every(1, 256, 3, 3), 256},
		{"Meet", set.Meet, every(0, 257, 5, 1), every(3, 257, 5, 1), 513},
		{"Meet", set.Meet, every(0, 257, 5, 1), every(3, 256, 5, 1), 512},
		{"Less", set.Less, of(0, 0x5000), odd[:511], 512},
		{"Less", set.Less, of(0, 0x5000), odd, 513},
		{"Less", set.Less, of(0, 0x5000, 0x6000, 0x6000), odd[:511], 513},
		{"Less", set.Less, of(1, 0x5000, 0x6000, 0x6000), odd[:511], 512},
	} {
		s, err := k.call(k.a, k.b)
		want := merge(crowdOf(k.a), crowdOf(k.b), func(_ int, a, b bool) bool {
			return k.name == "Join" && (a || b) || k.name == "Meet" && a && b || k.name == "Less" && a && !b
		}).ranges()
		if k.n > 0 && len(want) != k.n {
			t.Fatalf("%s: the test has %d ranges, not %d", k.name, len(want), k.n)
		}
		check(t, k.name, s, err, want)
	}
	for _, k := range []struct {
		a api.Set
		n int
	}{
		{odd[:510], 512}, {odd[:511], 513}, {odd, 514}, {every(0, 511, 1, 1), 512}, {every(0, 512, 1, 1), 513},
		{append(every(0, 510, 1, 1), of(0xD7FF, 0xD7FF)...), 511}, {append(every(0, 511, 1, 1), of(0xE000, 0xE000)...), 512},
	} {
		s, err := set.Other(k.a)
		want := merge(crowdOf(k.a), crowdOf(nil), func(u int, is, _ bool) bool { return runeByWords(u) && !is }).ranges()
		if len(want) != k.n {
			t.Fatalf("Other: the test has %d ranges, not %d", len(want), k.n)
		}
		check(t, "Other", s, err, want)
	}
}

func TestWhatIsNoSetIsRefused(t *testing.T) { // P2.4, R2
	for _, bad := range noSets {
		for _, good := range sets {
			for name, call := range map[string]two{"Join": set.Join, "Meet": set.Meet, "Less": set.Less} {
				for _, k := range [][2]api.Set{{bad, good}, {good, bad}, {bad, bad}} {
					if s, err := call(k[0], k[1]); s != nil || err != api.ErrSetRow {
						t.Errorf("%s(%x, %x): %x, %d", name, k[0], k[1], s, err)
					}
				}
			}
		}
		if s, err := set.Other(bad); s != nil || err != api.ErrSetRow {
			t.Errorf("Other(%x): %x, %d", bad, s, err)
		}
	}
	// Of ErrSetRow and ErrSetMany it is the first one: the row that is no set stands beside one that would make too many.
	if s, err := set.Join(every(0, 513, 1, 1), every(0x5000, 512, 1, 1)); s != nil || err != api.ErrSetRow {
		t.Errorf("Join: %x, %d", s, err)
	}
}

func TestAll(t *testing.T) { // P2.5
	for _, s := range sets {
		if l := collect(s); !slices.Equal(l, crowdOf(s).list()) {
			t.Errorf("All(%x): %d units", s, len(l))
		}
	}
	if l := collect(of(0x61, 0x63, 0x71, 0x71)); !slices.Equal(l, []int{0x61, 0x62, 0x63, 0x71}) {
		t.Errorf("All: %x", l)
	}
}

func TestAnyRunesStrays(t *testing.T) { // P2.6
	for _, k := range []struct {
		name      string
		got, want api.Set
		n         int
	}{{"Any", set.Any(), units, 1112192}, {"Runes", set.Runes(), runes, 1112064}, {"Strays", set.Strays(), strays, 128}} {
		if !slices.Equal(k.got, k.want) || set.Len(k.got) != k.n {
			t.Errorf("%s: %x, %d units", k.name, k.got, set.Len(k.got))
		}
	}
	for u := -2; u < beyond; u++ {
		is := utf.Width(u) > 0
		if set.Has(set.Any(), u) != is {
			t.Fatalf("Any has %x: not %v", u, is)
		}
		if u%61 == 0 && u < 0x10FF00 {
			u += 50
		}
	}
}
