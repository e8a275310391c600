package weigh_test

import (
	"fmt"
	"math"
	"slices"
	"strings"
	"testing"

	"respell/api"
	"respell/set"
	"respell/weigh"
)

var someUnits = []int{0, 1, 'a', 'b', 'c', 'd', 'x', 'y', 'z', 0x7F, 0x80, 0xFF, 0x7FF, 0x800, 0xD7FE, 0xD7FF, 0xE000, 0xE001, 0xFFFD, 0xFFFF, 0x10000, maxRune - 1, maxRune, firstRaw, firstRaw + 1, 0x1100C3, lastRaw - 1, lastRaw}

var noUnits = []int{math.MinInt, math.MinInt + 1, -1 << 32, -0x110000, -2, -1, 0xD800, 0xD801, 0xDBFF, 0xDC00, 0xDFFE, 0xDFFF, 0x110000, 0x110041, 0x11007F, 0x110100, 0x110101, 1 << 32, 1<<32 + 'a', math.MaxInt - 1, math.MaxInt}

func weighs(t *testing.T, p api.Pass, u, want int) {
	t.Helper()
	if w := weigh.Weight(p, u); w != want {
		t.Errorf("%.300s: %x weighs %d, not %d", fmt.Sprint(p), u, w, want)
	}
}

// bound holds the bound of a text against the one that is wanted.
func bound(t *testing.T, p api.Pass, text string, want int) {
	t.Helper()
	if n := weigh.Bound(p, text); n != want {
		t.Errorf("%.300s: the bound of %.60q is %d, not %d", fmt.Sprint(p), text, n, want)
	}
}

// weighsText holds the weights of letters against those that are wanted; all other units weigh 1.
func weighsText(t *testing.T, text string, want map[int]int) {
	t.Helper()
	p := read(t, text)
	for u, w := range want {
		if got := weigh.Weight(p, u); got != w {
			t.Errorf("%s: %x weighs %d, not %d", text, u, got, w)
		}
	}
	for _, u := range someUnits {
		if _, is := want[u]; !is && weigh.Weight(p, u) != 1 {
			t.Errorf("%s: %x weighs %d, not 1", text, u, weigh.Weight(p, u))
		}
	}
}

func TestWeightExamples(t *testing.T) { // P8.2
	weighsText(t, "a > b", nil)
	weighsText(t, "", nil)
	weighsText(t, "ab > b | c ; c > d", map[int]int{'c': 1, 'a': 1})
	weighsText(t, "a > | bb ; b > | cc ; c > d", map[int]int{'c': 1, 'b': 3, 'a': 7})
	weighsText(t, "a > | b", map[int]int{'a': 2})
	weighsText(t, "abc > | @3@2", map[int]int{'a': 1})
	weighsText(t, "a > | bbbbbbbb", map[int]int{'a': 9})
	weighsText(t, "x > | @1:[a] ; a > | bb", map[int]int{'b': 1, 'a': 3, 'x': 4})
	bound(t, read(t, "a > | bb ; b > | cc ; c > d"), "abc", 11)
}

func TestWeights(t *testing.T) { // P8.2
	for text, want := range map[string]map[int]int{
		// What is done weighs nothing, nor do contexts.
		"a > bbbb | c": {'a': 2}, "x { a } y > | bb": {'a': 3}, "^ x { a > | b ; a } y $ > | bbb": {'a': 4}, "x { a > | x ; x > y": {'a': 2}, "b { a } c > | c ; c > | dd": {'c': 3, 'a': 4},
		// In no first set, though in a key, or put back, or paired.
		"ab > | c": {'a': 1}, "dabc > | xyz": {'d': 1}, "abbbbbbb > | xyz": {'a': 1}, "a[xyz] > | @2:[bcd]": {'a': 1},
		// Places that are not put back as copies.
		"ab > | xyz": {'a': 3}, "abb > | xyz": {'a': 2}, "abbb > | xyz": {'a': 1}, "abbbb > | xyz": {'a': 1}, "abbbbbbb > |": {'a': 1}, "ab > | @2 x y z": {'a': 4}, "abb > | @2 x y z": {'a': 3}, "abb > | @3 x @2 y z": {'a': 4}, "abb > @2 | @3 x y z": {'a': 3}, "abb > @2 @3 | x y z": {'a': 2},
		// A pair is no copy.
		"ab > | @2:[x]": {'a': 1}, "ab > | @2:[x] y z": {'a': 3}, "ab > | @2 @2:[x] y z": {'a': 4}, "a > | @1:[x]": {'a': 2}, "a > | @1:[x] @1:[y] @1:[x]": {'a': 4},
		"abbb > | abb": {'a': 1}, "ab > | a": {'a': 1}, "abb > | a b": {'a': 1}, "ab > | c ; c > | xyz": {'c': 4, 'a': 4},
		// In several first sets: the heaviest.
		"a > | x ; a > | xxx ; a > | xx": {'a': 4}, "ab > | xxx ; a > | x": {'a': 3}, "[ab] > | x ; [bc] > | xx": {'a': 2, 'b': 3, 'c': 3}, "[a-d] > | x ; [b-c] > | xx ; c > | xxx": {'a': 2, 'b': 3, 'c': 4, 'd': 2}, "a > x ; a > | x": {'a': 2},
		// The heaviest of a first set counts, and it is asked of all others too.
		"[ab] > | c ; b > | dd ; x > | a ; y > | b": {'a': 2, 'b': 3, 'x': 3, 'y': 4},
		// Sets of several ranges.
		"[axz\\b{80}-\\b{81}] > | c ; c > | dd": {'a': 4, 'c': 3, 'x': 4, 'z': 4, firstRaw: 4, firstRaw + 1: 4}, "[\\x{D7FF}\\x{E000}] > | a": {0xD7FF: 2, 0xE000: 2}, "[\\x{10FFFF}\\b{FF}] > | a ; b > | \\b{FF} ; c > | \\x{10FFFE}": {maxRune: 2, lastRaw: 2, 'b': 3, 'c': 2},
		// Of a pair's To the heaviest.
		"x > | @1:[a] ; y > | @1:[b] ; z > | @1:[c] ; a > | c ; b > | a": {'x': 3, 'y': 4, 'z': 2, 'a': 2, 'b': 3}, "[xyz] > | @1:[abc] ; b > | dd": {'b': 3, 'x': 4, 'y': 4, 'z': 4}, "[xyz] > | @1:[abc] ; c > | dd": {'c': 3, 'x': 4, 'y': 4, 'z': 4}, "[xyz] > | @1:[abc] ; a > | dd": {'a': 3, 'x': 4, 'y': 4, 'z': 4}, "[xyz] > | @1:[abc] @1:[bcd] ; a > | dd ; d > | \\x{0}": {'a': 5, 'd': 2, 'x': 8, 'y': 8, 'z': 8},
		"[xy] > | @1:[ac] ; b > | dd": {'b': 3, 'x': 2, 'y': 2}, "a[xy] > | @2:[bc] d ; b > | d ; c > | dd": {'a': 4, 'b': 2, 'c': 3}, "[xy] > | @1:[\\b{80}-\\b{81}] ; \\b{81} > | aaa": {firstRaw + 1: 4, 'x': 5, 'y': 5},
		// Strays are not the runes of the same bytes.
		"\\b{C3} > | aa": {0x1100C3: 3}, "\\x{FF} > | aa ; b > | \\b{FF}": {0xFF: 3, 'b': 2}, "\\b{FF} > | aa ; b > | \\x{FF}": {lastRaw: 3, 'b': 2}, "\\b{FF} > | aa ; b > | \\b{FF}": {lastRaw: 3, 'b': 4},
		// What comes later lifts what stands ahead, over several rules.
		"a > | b ; b > | c ; c > | d ; d > | xx": {'a': 6, 'b': 5, 'c': 4, 'd': 3}, "d > | xx ; c > | d ; b > | c ; a > | b": {'a': 6, 'b': 5, 'c': 4, 'd': 3}, "b > | c ; d > | xx ; a > | b ; c > | d": {'a': 6, 'b': 5, 'c': 4, 'd': 3},
		// The greatest weights.
		"a > | bbbbbbb ; b > | cccccccc": {'a': 64, 'b': 9}, "ax > | bbbbbbbc ; b > | cccccccc": {'a': 64, 'b': 9}, "a > | bbbbbbbbbbbbbbbb": {'a': 17}, "a > | dddddddddddddddd ; b > | a ; c > | aaa": {'a': 17, 'b': 18, 'c': 52},
	} {
		weighsText(t, text, want)
	}
}

func TestWeightsOfAllUnits(t *testing.T) { // P8.2
	for _, x := range []struct {
		text string
		in   api.Set
		want int
	}{{". > ; . > b |", all, 1}, {". > b | ; .a > | b", all, 1}, {"[^a] > | aaaa", of(0, 'a'-1, 'b', 0xD7FF, 0xE000, maxRune), 5}, {"[\\x{0}-\\x{60}] > | aaaa", of(0, 0x60), 5}, {"[\\b{80}-\\b{FF}] > | aaa", of(firstRaw, lastRaw), 4}, {"[\\x{1}\\x{3}\\x{100}-\\x{D7FF}] > | aaa ; b > c", of(1, 1, 3, 3, 0x100, 0xD7FF), 4}} {
		p := read(t, x.text)
		near := slices.Clone(someUnits)
		for _, r := range x.in {
			near = append(near, r.Lo-1, r.Lo, r.Lo+1, r.Hi-1, r.Hi, r.Hi+1)
		}
		for _, u := range near {
			want := 1
			switch {
			case !set.Has(all, u):
				want = 0
			case set.Has(x.in, u):
				want = x.want
			}
			weighs(t, p, u, want)
		}
	}
}

func TestNothingWeighsInAPassThatMayNotBe(t *testing.T) { // P8.2, R2
	bad := []api.Pass{read(t, "a > | a"), read(t, "a > | @1"), read(t, "x > y ; ab > | @2@2"), read(t, "a > | b ; b > | a"), {Rules: make([]api.Rule, 257)}, {Rules: slices.Repeat(read(t, "a > b").Rules, 257)}}
	for _, x := range refused {
		bad = append(bad, api.Pass{Rules: []api.Rule{x.rule}}, api.Pass{Rules: append(read(t, "a > | b").Rules, x.rule)})
	}
	for _, p := range bad {
		for _, u := range slices.Concat(someUnits, noUnits) {
			weighs(t, p, u, 0)
		}
		for _, text := range []string{"", "a", "b", "abc\x80é", "zzzz"} {
			bound(t, p, text, 0)
		}
	}
}

func TestWhatIsNoUnitWeighsNothing(t *testing.T) { // P8.2
	for _, text := range []string{"", "a > b", ". > x", "a > | bb", "[\\x{0}-\\x{D7FF}\\x{E000}-\\x{10FFFE}] > | \\x{10FFFF}"} {
		for _, u := range noUnits {
			weighs(t, read(t, text), u, 0)
		}
	}
}

// spread is n ranges of three units each, with one number between each two; from is the first unit.
func spread(from, n int) api.Set {
	var s api.Set
	for i := range n {
		s = append(s, api.Range{Lo: from + 4*i, Hi: from + 4*i + 2})
	}
	return s
}

func TestSetsOfManyRanges(t *testing.T) { // P8.2
	// These two have more ranges in common than a set may have; and each unit of them stands for all.
	one, two := spread(0x1000, 512), spread(0x1002, 512)
	if _, e := set.Meet(one, two); e != api.ErrSetMany {
		t.Fatalf("the sets meet: %d", e)
	}
	from := of(0x4000, 0x4000+512*3-1)
	p := api.Pass{Rules: []api.Rule{{Key: row(one), Result: pieces(unit('a'), unit('a'))}, {Key: row(from), Result: pieces(paired(0, two))}}}
	for i, u := range []int{0x1000, 0x1002, 0x1004, 0x1000 + 4*511, 0x1002 + 4*511} {
		weighs(t, p, u, 3)
		weighs(t, p, []int{0x1003, 0x1007, 0x1003 + 4*510, 0x1003 + 4*511, 0xFFF}[i], 1)
	}
	weighs(t, p, 0x4000, 4)
	weighs(t, p, 0x4000+512*3-1, 4)
	// They touch in the last range alone, or not at all.
	for _, x := range []struct {
		to   api.Set
		want int
	}{{of(0x1002+4*511, 0x1002+4*511), 4}, {of(0x1003+4*511, 0x1003+4*511), 2}, {of(0x1000, 0x1000), 4}, {of(0xFFF, 0xFFF), 2}, {of(0x1003, 0x1003), 2}, {of(0x1003, 0x1004), 4}, {of(0x1003+4*254, 0x1003+4*254), 2}} {
		size := set.Len(x.to)
		key := of('p', 'p'+size-1)
		weighs(t, api.Pass{Rules: []api.Rule{{Key: row(key), Result: pieces(paired(0, x.to))}, p.Rules[0]}}, 'p', x.want)
		if size == 1 {
			weighs(t, api.Pass{Rules: []api.Rule{p.Rules[0], {Key: row(key), Result: pieces(unit(x.to[0].Lo))}}}, 'p', x.want)
		}
	}
	gaps := api.Set{}
	for i := range 511 {
		gaps = append(gaps, of(0x1003+4*i, 0x1003+4*i)...)
	}
	weighs(t, api.Pass{Rules: []api.Rule{{Key: row(of('A', 'A'+510)), Result: pieces(paired(0, gaps))}, p.Rules[0]}}, 'A', 2)
}

func TestAllUnitsPaired(t *testing.T) { // P8.2
	p := api.Pass{Rules: []api.Rule{{Key: row(a, all), Result: pieces(paired(1, all))}}}
	checks(t, p, 0, api.OK)
	weighs(t, p, 'a', 1)
	p.Rules[0].Result = pieces(paired(1, all), unit('x'))
	checks(t, p, 0, api.ErrWeighMost)
	p.Rules = []api.Rule{{Key: row(a, all), Result: pieces(paired(1, all))}, {Key: row(of(lastRaw, lastRaw)), Result: pieces(unit('b'), unit('b'))}}
	weighs(t, p, 'a', 3)
	weighs(t, p, lastRaw, 3)
}

func TestBound(t *testing.T) { // P8.2
	p := read(t, "a > | bb ; b > | cc ; é > | a ; \\b{C3} > | aa ; \\x{FFFD} > | ccc")
	for text, want := range map[string]int{
		"": 0, "a": 7, "b": 3, "c": 1, "abc": 11, "cba": 11, "aaaa": 28, "x": 1, "\x00": 1, "é": 8, "éa": 15, "\xC3": 15, "\xA9": 1, "\xC3a\xA9": 23, "\xC3\xC3\xA9": 23, "\xFF": 1, "aa\xFF": 15, "\uFFFD": 4, "\xEF\xBF": 2, "\xEF\xBF\xBDa": 11, "\xE2\x82\xAC": 1, "\xE2\x82": 2, "\xE2a\x82": 9, "\xF0\x9F\x98\x80": 1, "\xF0\x9F\x98": 3, "\xED\xA0\x80": 3, "\xF4\x90\x80\x80": 4, "\xC0\x80": 2, "\x80": 1,
	} {
		bound(t, p, text, want)
	}
	bound(t, api.Pass{}, "", 0)
	bound(t, api.Pass{}, "é\xE2x", 3)
	bound(t, read(t, "[\\b{80}-\\b{FF}] > | a ; a > | b"), "\x80é\xC3", 7)
}

func TestBoundOfLongTexts(t *testing.T) { // P8.2
	p := read(t, "a > | bbbbbbb ; b > | cccccccc ; € > | b ; \\b{E2} > | cc")
	for _, n := range []int{1, 2, 1000, api.MaxText, api.MaxText + 1, 1 << 20} {
		bound(t, p, strings.Repeat("a", n), 64*n)
		bound(t, p, strings.Repeat("x", n), n)
		bound(t, p, strings.Repeat("\xE2", n), 3*n)
		bound(t, p, strings.Repeat("€", n), 10*n)
		bound(t, p, strings.Repeat("ab€\xE2x", n), (64+9+10+3+1)*n)
	}
	// Many unlike units.
	var b strings.Builder
	want := 0
	for u := range maxRune + 1 {
		if u < 0xD800 || u > 0xDFFF {
			b.WriteRune(rune(u))
			want++
		}
	}
	bound(t, p, b.String(), want+63+8+9)
}
