package utf_test

import (
	"math"
	"slices"
	"strings"
	"testing"

	"respell/api"
	"respell/utf"
)

const stray = api.Stray

func TestFirstAndLastOfExamples(t *testing.T) { // P1.1
	for _, k := range []struct {
		s           string
		first, wide int
		last, long  int
	}{
		{"", 0, 0, 0, 0},
		{"\x00", 0, 1, 0, 1},
		{"a", 'a', 1, 'a', 1},
		{"\xC3\xA9a", 0xE9, 2, 'a', 1},
		{"\xC3", stray + 0xC3, 1, stray + 0xC3, 1},
		{"\xEF\xBF\xBD", 0xFFFD, 3, 0xFFFD, 3},
		{"\xEF\xBF\xBD\x80", 0xFFFD, 3, stray + 0x80, 1},
		{"\xEF\xBF", stray + 0xEF, 1, stray + 0xBF, 1},
		{"\x80\xEF\xBF\xBD", stray + 0x80, 1, 0xFFFD, 3},
		{"a\x80", 'a', 1, stray + 0x80, 1},
		{"\xE2\x82\xAC", 0x20AC, 3, 0x20AC, 3},
		{"\x82\xAC", stray + 0x82, 1, stray + 0xAC, 1},
		{"\x80\x80\x80\x80\x80", stray + 0x80, 1, stray + 0x80, 1},
		{"\xF0\x9F\x98\x80\x80", 0x1F600, 4, stray + 0x80, 1},
		{"\xF0\x9F\x98\x80é", 0x1F600, 4, 0xE9, 2},
		{"\xC0\x80", stray + 0xC0, 1, stray + 0x80, 1},
		{"\xED\xA0\x80", stray + 0xED, 1, stray + 0x80, 1},
		{"\xF4\x8F\xBF\xBF", 0x10FFFF, 4, 0x10FFFF, 4},
		{"\xF4\x90\x80\x80", stray + 0xF4, 1, stray + 0x80, 1},
	} {
		if u, n := utf.First(k.s); u != k.first || n != k.wide {
			t.Errorf("First(%x): %x, %d", k.s, u, n)
		}
		if u, n := utf.Last(k.s); u != k.last || n != k.long {
			t.Errorf("Last(%x): %x, %d", k.s, u, n)
		}
	}
}

func TestFirstAndLastOfManyTexts(t *testing.T) { // P1.1
	texts(func(s string) {
		if s == "" {
			return
		}
		places, units := unitsByTable(s)
		end := len(units) - 1
		if u, n := utf.First(s); u != units[0] || n != len(bytesByTable(units[0])) {
			t.Fatalf("First(%x): %x, %d", s, u, n)
		}
		if u, n := utf.Last(s); u != units[end] || n != len(s)-places[end] {
			t.Fatalf("Last(%x): %x, %d", s, u, n)
		}
	})
}

func TestWidthAndPut(t *testing.T) { // P1.2
	for u := -0x200; u <= stray+0x400; u++ {
		want := bytesByTable(u)
		if utf.Width(u) != len(want) || utf.Put(u) != want {
			t.Fatalf("%x: Width %d, Put %x", u, utf.Width(u), utf.Put(u))
		}
	}
	for u, n := range map[int]int{0: 1, 0x7F: 1, 0x80: 2, 0xFFFF: 3, 0x10FFFF: 4, 0xD800: 0, 0xDFFF: 0, 0x110000: 0, 0x11007F: 0, 0x110080: 1, 0x110100: 0, -1: 0} {
		if utf.Width(u) != n {
			t.Errorf("Width(%x): %d", u, utf.Width(u))
		}
	}
}

// noUnits are numbers that are no units, among them those whose lower bits are a unit's.
func noUnits() []int {
	l := []int{-1, -0x80, math.MinInt, math.MaxInt, math.MinInt32, math.MaxInt32, 0xD800, 0xDABC, 0xDFFF, stray, stray + 'a', stray + 0x7F, stray + 0x100, 0x200000}
	top := math.MaxInt - math.MaxInt>>1
	for _, u := range []int{'a', 0xE9, 0x20AC, stray + 0x80} {
		l = append(l, u|math.MinInt, u|top)
	}
	return l
}

func TestNumbersThatAreNoUnits(t *testing.T) { // P1.2, P1.4, P1.5
	for _, u := range noUnits() {
		if utf.Width(u) != 0 || utf.Put(u) != "" {
			t.Errorf("%x: Width %d, Put %x", u, utf.Width(u), utf.Put(u))
		}
		for _, l := range [][]int{{u}, {u, 'a'}, {'a', u}, {'a', u, 0x20AC}} {
			if s, err := utf.Join(l); s != "" || err != api.ErrUtfUnit {
				t.Errorf("Join(%x): %x, %d", l, s, err)
			}
			if utf.Proper(l) {
				t.Errorf("Proper(%x)", l)
			}
		}
	}
}

func TestAllAndBackAreTheUnits(t *testing.T) { // P1.3
	texts(func(s string) {
		places, units := unitsByTable(s)
		var at, us []int
		for i, u := range utf.All(s) {
			at, us = append(at, i), append(us, u)
		}
		if !slices.Equal(at, places) || !slices.Equal(us, units) {
			t.Fatalf("All(%x): %d, %x", s, at, us)
		}
		at, us = nil, nil
		for i, u := range utf.Back(s) {
			at, us = append(at, i), append(us, u)
		}
		slices.Reverse(at)
		slices.Reverse(us)
		if !slices.Equal(at, places) || !slices.Equal(us, units) {
			t.Fatalf("Back(%x), turned round: %d, %x", s, at, us)
		}
	})
}

func TestCutOfExamples(t *testing.T) { // P1.4
	for s, want := range map[string][]int{
		"":                         nil,
		"\xF0\x90\x80x":            {stray + 0xF0, stray + 0x90, stray + 0x80, 'x'},
		"\xF4\x90\x80\x80":         {stray + 0xF4, stray + 0x90, stray + 0x80, stray + 0x80},
		"\xED\x9F\xBF\xEE\x80\x80": {0xD7FF, 0xE000},
		"\xED\xA0\x80":             {stray + 0xED, stray + 0xA0, stray + 0x80},
		"\xED\xBF\xBF":             {stray + 0xED, stray + 0xBF, stray + 0xBF},
		"\xC0\x80":                 {stray + 0xC0, stray + 0x80},
		"\xE0\x9F\xBF":             {stray + 0xE0, stray + 0x9F, stray + 0xBF},
		"\xF0\x8F\xBF\xBF":         {stray + 0xF0, stray + 0x8F, stray + 0xBF, stray + 0xBF},
		"\x80\xEF\xBF\xBD\xC3":     {stray + 0x80, 0xFFFD, stray + 0xC3},
		"\xEF\xBF\xEF\xBF\xBD":     {stray + 0xEF, stray + 0xBF, 0xFFFD},
	} {
		if l := utf.Cut(s); !slices.Equal(l, want) {
			t.Errorf("Cut(%x): %x", s, l)
		}
	}
}

func TestCutIsTheUnits(t *testing.T) { // P1.4
	texts(func(s string) {
		if _, units := unitsByTable(s); !slices.Equal(utf.Cut(s), units) {
			t.Fatalf("Cut(%x): %x", s, utf.Cut(s))
		}
	})
	for b := 0; b <= 0xFF; b++ {
		want := b
		if b >= 0x80 {
			want += stray
		}
		if l := utf.Cut(string([]byte{byte(b)})); !slices.Equal(l, []int{want}) {
			t.Errorf("Cut(%x): %x", b, l)
		}
	}
	for r := 0; r <= api.MaxRune; r++ {
		if runeByTable(r) && !slices.Equal(utf.Cut(bytesByTable(r)), []int{r}) {
			t.Fatalf("Cut of the bytes of %x: %x", r, utf.Cut(bytesByTable(r)))
		}
	}
}

func TestJoin(t *testing.T) { // P1.4
	for _, k := range []struct {
		l    []int
		want string
	}{
		{nil, ""},
		{[]int{}, ""},
		{[]int{'a', 0xE9, 0x20AC, 0x1F600, 0xFFFD, 0}, "aé€😀\uFFFD\x00"},
		{[]int{stray + 0xC3, stray + 0xA9}, "\xC3\xA9"},
		{[]int{stray + 0xE2, stray + 0x82, 'x', stray + 0xFF}, "\xE2\x82x\xFF"},
	} {
		if s, err := utf.Join(k.l); s != k.want || err != api.OK {
			t.Errorf("Join(%x): %x, %d", k.l, s, err)
		}
	}
}

// unitRows gives rows of up to three units of all kinds: runes, and strays that may make runes together.
func unitRows(give func([]int)) {
	kinds := []int{0, 'a', 0xE9, 0x20AC, 0xFFFD, 0x1F600, stray + 0x80, stray + 0x82, stray + 0xAC, stray + 0xBD, stray + 0xBF, stray + 0xC3, stray + 0xE2, stray + 0xED, stray + 0xEF, stray + 0xF0, stray + 0xFF}
	give(nil)
	for _, a := range kinds {
		give([]int{a})
		for _, b := range kinds {
			give([]int{a, b})
			for _, c := range kinds {
				give([]int{a, b, c})
			}
		}
	}
}

func TestProper(t *testing.T) { // P1.5
	for _, k := range []struct {
		l    []int
		want bool
	}{
		{nil, true},
		{[]int{}, true},
		{[]int{'a', 0xE9, 0xFFFD}, true},
		{[]int{stray + 0xC3, stray + 0xA9}, false},
		{[]int{stray + 0xA9, stray + 0xC3}, true},
		{[]int{stray + 0xC3, 0xE9}, true},
		{[]int{stray + 0xEF, stray + 0xBF, stray + 0xBD}, false},
		{[]int{stray + 0xF0, stray + 0x9F, stray + 0x98}, true},
		{[]int{stray + 0xF0, stray + 0x9F, stray + 0x98, stray + 0x80}, false},
		{[]int{stray + 0xED, stray + 0xA0, stray + 0x80}, true},
		{[]int{stray + 0xC0, stray + 0x80}, true},
		{[]int{'a', 'b', stray + 'c'}, false},
	} {
		if utf.Proper(k.l) != k.want {
			t.Errorf("Proper(%x): %v", k.l, !k.want)
		}
	}
	unitRows(func(l []int) {
		var s string
		for _, u := range l {
			s += bytesByTable(u)
		}
		_, units := unitsByTable(s)
		if utf.Proper(l) != slices.Equal(units, l) {
			t.Errorf("Proper(%x): %v", l, utf.Proper(l))
		}
	})
}

func TestBorder(t *testing.T) { // P1.5
	for _, k := range []struct {
		s    string
		at   int
		want bool
	}{
		{"é", 1, false}, {"\xA9\xC3", 1, true}, {"a", 1, true}, {"a", 2, false}, {"a", -1, false},
		{"", 0, true}, {"", 1, false}, {"", -1, false},
		{"", math.MaxInt, false}, {"", math.MinInt, false}, {"abc", math.MaxInt, false}, {"abc", math.MinInt, false},
		{"a😀b", 1, true}, {"a😀b", 2, false}, {"a😀b", 3, false}, {"a😀b", 4, false}, {"a😀b", 5, true},
	} {
		if utf.Border(k.s, k.at) != k.want {
			t.Errorf("Border(%x, %d): %v", k.s, k.at, !k.want)
		}
	}
	texts(func(s string) {
		places, _ := unitsByTable(s)
		for at := -2; at <= len(s)+2; at++ {
			want := at == 0 || at == len(s) || slices.Contains(places, at)
			if utf.Border(s, at) != want {
				t.Fatalf("Border(%x, %d): %v", s, at, !want)
			}
		}
	})
}

func TestOpenOfExamples(t *testing.T) { // P1.6
	for _, k := range []struct {
		s         string
		n, lo, hi int
	}{
		{"", 0, 0, 0}, {"a", 0, 0, 0}, {"\x80", 0, 0, 0}, {"\xE2\x82\xAC", 0, 0, 0},
		{"a\xE2\x82", 2, 0x2080, 0x20BF}, {"\xC3", 1, 0xC0, 0xFF},
		{"\xF0\x90", 2, 0x10000, 0x10FFF}, {"\xF0\x80", 0, 0, 0}, {"\xF0\x8F", 0, 0, 0}, {"\xF0", 1, 0x10000, 0x3FFFF},
		{"\xED", 1, 0xD000, 0xD7FF}, {"\xED\x9F", 2, 0xD7C0, 0xD7FF}, {"\xED\xA0", 0, 0, 0}, {"\xEE", 1, 0xE000, 0xEFFF},
		{"\xE0", 1, 0x800, 0xFFF}, {"\xE0\x9F", 0, 0, 0}, {"\xE0\xA0", 2, 0x800, 0x83F}, {"\xEF\xBF", 2, 0xFFC0, 0xFFFF},
		{"\xF4", 1, 0x100000, 0x10FFFF}, {"\xF4\x8F\xBF", 3, 0x10FFC0, 0x10FFFF}, {"\xF4\x90", 0, 0, 0},
		{"\xF0\x9F\x98", 3, 0x1F600, 0x1F63F}, {"\xF5", 0, 0, 0}, {"\xFF", 0, 0, 0},
		{"\xC0", 0, 0, 0}, {"\xC1", 0, 0, 0}, {"\xC2", 1, 0x80, 0xBF}, {"\xDF", 1, 0x7C0, 0x7FF},
		{"\xC3\xC3", 1, 0xC0, 0xFF}, {"\xE2\xFF", 0, 0, 0}, {"\xF0\x9F\xC3", 1, 0xC0, 0xFF}, {"é\x82", 0, 0, 0},
		{"\xC3\xA9\xC3", 1, 0xC0, 0xFF}, {"\xF0\x90\x80\xE2\x82", 2, 0x2080, 0x20BF}, {"\xE2a\x82", 0, 0, 0},
	} {
		if n, lo, hi := utf.Open(k.s); n != k.n || lo != k.lo || hi != k.hi {
			t.Errorf("Open(%x): %d, %x, %x", k.s, n, lo, hi)
		}
	}
}

type span struct{ lo, hi, many int }

// spans are the beginnings of runes' bytes, with the runes that begin so.
func spans() map[string]span {
	out := map[string]span{}
	for r := 0; r <= api.MaxRune; r++ {
		b := bytesByTable(r)
		for n := 1; n < len(b); n++ {
			x, ok := out[b[:n]]
			if !ok {
				x.lo = r
			}
			out[b[:n]] = span{x.lo, r, x.many + 1}
		}
	}
	return out
}

func TestOpenIsAllRunesThatBeginSo(t *testing.T) { // P1.6
	begun := spans()
	look := func(s string) {
		n, want := 0, span{}
		for i := 1; i <= 3 && i <= len(s); i++ {
			if x, ok := begun[s[len(s)-i:]]; ok {
				n, want = i, x
			}
		}
		m, lo, hi := utf.Open(s)
		if m != n || lo != want.lo || hi != want.hi {
			t.Fatalf("Open(%x): %d, %x, %x; not %d, %x, %x", s, m, lo, hi, n, want.lo, want.hi)
		}
		if n > 0 && hi-lo+1 != want.many {
			t.Fatalf("Open(%x): from %x to %x not all begin so", s, lo, hi)
		}
	}
	for a := range 0x100 {
		for b := range 0x100 {
			look(string([]byte{byte(a), byte(b)}))
		}
	}
	for head := range begun {
		look(head)
		look("a" + head)
		look("\x80" + head)
		look(head + "\x80")
		look(head + "\xFF")
		look("\xE2" + head)
	}
	texts(look)
}

func TestLongText(t *testing.T) { // P1.1, P1.3, P1.4: no bound but R9's
	s := strings.Repeat("a\x80é\xF0😀", 50000) + "\xE2\x82"
	l := utf.Cut(s)
	if back, err := utf.Join(l); len(l) != 250002 || back != s || err != api.OK || !utf.Proper(l) {
		t.Errorf("%d units, error %d", len(l), err)
	}
	if n, lo, hi := utf.Open(s); n != 2 || lo != 0x2080 || hi != 0x20BF {
		t.Errorf("Open: %d, %x, %x", n, lo, hi)
	}
	n := 0
	for range utf.Back(s) {
		n++
	}
	if n != len(l) {
		t.Errorf("Back gives %d", n)
	}
}
