package class_test

import (
	"math"
	"slices"
	"strings"
	"testing"

	"respell/api"
	"respell/class"
	"respell/set"
)

// must is the set of a name that there is.
func must(t *testing.T, name string) api.Set {
	t.Helper()
	s, err := class.Of(name)
	if err != api.OK {
		t.Fatalf("Of(%q): %d", name, err)
	}
	return s
}

// namesByWords is the table's names, as they stand there.
func namesByWords() []string {
	var l []string
	for _, row := range rows(setsByWords) {
		l = append(l, row[0])
	}
	return l
}

func TestOfEachName(t *testing.T) { // P3.1
	for _, row := range rows(setsByWords) {
		want := spans(row[1])
		if s, err := class.Of(row[0]); !slices.Equal(s, want) || err != api.OK {
			t.Errorf("Of(%q): %x, %d; want %x", row[0], s, err, want)
		}
	}
}

// Each set has the table's units, to the last one, and no other number.
func TestOfUnitByUnit(t *testing.T) { // P3.1
	for _, row := range rows(setsByWords) {
		s, want := must(t, row[0]), letters(row[1])
		if l := slices.Collect(set.All(s)); !slices.Equal(l, want) {
			t.Errorf("%q: %d units, want %d", row[0], len(l), len(want))
		}
		for _, r := range spans(row[1]) {
			if !set.Has(s, r.Lo) || !set.Has(s, r.Hi) || set.Has(s, r.Lo-1) || set.Has(s, r.Hi+1) {
				t.Errorf("%q: the edges of %x", row[0], r)
			}
		}
		for _, u := range []int{-1, math.MinInt, math.MaxInt, 1 << 32, 1<<32 + 0x41} {
			if set.Has(s, u) {
				t.Errorf("%q has %x", row[0], u)
			}
		}
	}
}

func TestOfExamples(t *testing.T) { // P3.1
	for _, k := range []struct {
		name string
		want api.Set
	}{
		{"digit", api.Set{{Lo: 0x30, Hi: 0x39}}}, {"stray", api.Set{{Lo: 0x110080, Hi: 0x1100FF}}},
	} {
		if s := must(t, k.name); !slices.Equal(s, k.want) {
			t.Errorf("Of(%q): %x", k.name, s)
		}
	}
	for _, name := range []string{"Digit", ""} {
		if s, err := class.Of(name); s != nil || err != api.ErrClassName {
			t.Errorf("Of(%q): %x, %d", name, s, err)
		}
	}
}

// noNames are texts close to names, and others.
func noNames() []string {
	l := []string{"", " ", "\x00", ":", "é", "\xFF", "\xE2\x82", "a", "aa", "zzz", "word", "control", "han", "letter", "[:digit:]", "ALPHA", "runes", "strays", "Any", strings.Repeat("alpha", 4000)}
	signs := []string{" ", "\x00", "\n", "\t", ":", "s", "a", "_", "-", "1", "\x80", "é", "\u0301"}
	names := namesByWords()
	for i, name := range names {
		l = append(l, strings.ToUpper(name), strings.ToUpper(name[:1])+name[1:], name[:1]+strings.ToUpper(name[1:]), name+name, name+names[(i+1)%len(names)], ":"+name+":")
		for at := range len(name) + 1 {
			for _, sign := range signs {
				l = append(l, name[:at]+sign+name[at:])
			}
		}
		for at := range len(name) {
			l = append(l, name[:at], name[at+1:], name[:at]+name[at+1:], name[:at]+strings.ToUpper(name[at:at+1])+name[at+1:])
			l = append(l, name[:at]+string(name[at]+1)+name[at+1:], name[:at]+string([]byte{name[at] | 0x80})+name[at+1:])
		}
	}
	return slices.DeleteFunc(l, func(name string) bool { return slices.Contains(names, name) })
}

func TestOfWhatIsNoName(t *testing.T) { // P3.1, R2
	for _, name := range noNames() {
		if s, err := class.Of(name); len(s) != 0 || err != api.ErrClassName {
			t.Errorf("Of(%q): %x, %d", name, s, err)
		}
	}
}

func TestNames(t *testing.T) { // P3.1
	l := class.Names()
	if !slices.Equal(l, namesByWords()) {
		t.Errorf("%q", l)
	}
	if len(l) != 24 || l[0] != "alnum" || l[1] != "alpha" || l[23] != "xdigit" {
		t.Errorf("the example: %q", l)
	}
	for i := 1; i < len(l); i++ {
		if l[i-1] >= l[i] {
			t.Errorf("%q stands ahead of %q", l[i-1], l[i])
		}
	}
	for _, name := range l {
		must(t, name)
	}
}

func TestPartners(t *testing.T) { // P3.2
	lower, upper := map[int]int{}, map[int]int{}
	for _, p := range pairs() {
		lower[p.great], upper[p.small] = p.small, p.great
	}
	by := func(m map[int]int, u int) int {
		if to, is := m[u]; is {
			return to
		}
		return u
	}
	for u := -0x1000; u < beyond; u++ {
		if got := class.Lower(u); got != by(lower, u) {
			t.Errorf("Lower(%x): %x, want %x", u, got, by(lower, u))
		}
		if got := class.Upper(u); got != by(upper, u) {
			t.Errorf("Upper(%x): %x, want %x", u, got, by(upper, u))
		}
	}
}

// The table's third column says the same as the first two.
func TestPartnersByHowMuch(t *testing.T) { // P3.2
	for _, row := range rows(partnersByWords) {
		for _, u := range letters(row[0]) {
			if got := class.Lower(u); got != u+number(row[2]) {
				t.Errorf("Lower(%x): %x", u, got)
			}
		}
		for _, u := range letters(row[1]) {
			if got := class.Upper(u); got != u-number(row[2]) {
				t.Errorf("Upper(%x): %x", u, got)
			}
		}
	}
}

func TestPartnersExamples(t *testing.T) { // P3.2
	for _, k := range []struct{ u, want int }{{0x41, 0x61}, {0x61, 0x61}, {0xD7, 0xD7}, {0x3A3, 0x3C3}, {0x401, 0x451}, {-5, -5}} {
		if got := class.Lower(k.u); got != k.want {
			t.Errorf("Lower(%x): %x, want %x", k.u, got, k.want)
		}
	}
	for _, k := range []struct{ u, want int }{{0x61, 0x41}, {0xFF, 0xFF}, {0xDF, 0xDF}, {0x3C2, 0x3C2}, {0x44F, 0x42F}, {0x1100E0, 0x1100E0}} {
		if got := class.Upper(k.u); got != k.want {
			t.Errorf("Upper(%x): %x, want %x", k.u, got, k.want)
		}
	}
}

// The first and the last letter of each row, and the numbers beside them.
func TestPartnersEdges(t *testing.T) { // P3.2
	for _, p := range []pair{
		{0x41, 0x61}, {0x5A, 0x7A}, {0xC0, 0xE0}, {0xD6, 0xF6}, {0xD8, 0xF8}, {0xDE, 0xFE},
		{0x391, 0x3B1}, {0x3A1, 0x3C1}, {0x3A3, 0x3C3}, {0x3A9, 0x3C9}, {0x400, 0x450}, {0x40F, 0x45F}, {0x410, 0x430}, {0x42F, 0x44F},
	} {
		if class.Lower(p.great) != p.small || class.Upper(p.small) != p.great {
			t.Errorf("%x and %x: %x, %x", p.great, p.small, class.Lower(p.great), class.Upper(p.small))
		}
		if class.Lower(p.small) != p.small || class.Upper(p.great) != p.great {
			t.Errorf("%x and %x: the other way: %x, %x", p.great, p.small, class.Lower(p.small), class.Upper(p.great))
		}
	}
	for _, u := range []int{0x40, 0x5B, 0x60, 0x7B, 0xBF, 0xD7, 0xDF, 0xF7, 0xFF, 0x100, 0x390, 0x3A2, 0x3AA, 0x3B0, 0x3C2, 0x3CA, 0x3FF, 0x460} {
		if class.Lower(u) != u || class.Upper(u) != u {
			t.Errorf("%x has no partner: %x, %x", u, class.Lower(u), class.Upper(u))
		}
	}
}

// Numbers that would be letters, if bits were lost or a sum went round.
func TestPartnersOfFarNumbers(t *testing.T) { // P3.2, R1
	far := []int{math.MinInt, math.MinInt + 0x20, math.MinInt + 0x50, math.MaxInt, math.MaxInt - 0x20, math.MaxInt - 0x50, 0xD800, 0xDFFF, 0x110000, 0x11007F, 0x110080, 0x1100C0, 0x1100E0, 0x1100FF, 0x110100}
	for _, p := range pairs() {
		for _, u := range []int{p.great, p.small} {
			far = append(far, -u, ^u, u+1<<16, u+1<<21, u+1<<31, u+1<<32, u-1<<32, u+1<<62, math.MinInt+u, math.MaxInt-u, u+0x110000)
		}
	}
	for _, u := range far {
		if class.Lower(u) != u || class.Upper(u) != u {
			t.Errorf("%x: %x, %x", u, class.Lower(u), class.Upper(u))
		}
	}
}
