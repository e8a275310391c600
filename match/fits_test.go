package match_test

import (
	"fmt"
	"math"
	"slices"
	"strings"
	"testing"

	"respell/api"
	"respell/match"
	"respell/names"
	"respell/parse"
	"respell/rule"
	"respell/utf"
)

// How rules are written in these tests: as a rules' text has them, or by hand where that can't.

// read is the pass of a rules' text; the last ; may be left out.
func read(t *testing.T, text string) api.Pass {
	t.Helper()
	if strings.TrimSpace(text) != "" && !strings.HasSuffix(text, ";") {
		text += " ;"
	}
	lines, fault := parse.Parse(text)
	if fault.Code != api.OK {
		t.Fatalf("%s: %v", text, fault)
	}
	passes, line, e := names.Passes(lines)
	if e != api.OK || len(passes) != 1 {
		t.Fatalf("%s: %d passes, %d, %d", text, len(passes), line, e)
	}
	return passes[0]
}

func of(n ...int) api.Set {
	var s api.Set
	for i := 0; i+1 < len(n); i += 2 {
		s = append(s, api.Range{Lo: n[i], Hi: n[i+1]})
	}
	return s
}

func row(l ...api.Set) []api.Set { return l }

// letters is a row of sets of one unit each.
func letters(text string) []api.Set {
	var l []api.Set
	for _, u := range utf.Cut(text) {
		l = append(l, of(u, u))
	}
	return l
}

func pieces(l ...api.Piece) []api.Piece { return l }

func unit(u int) api.Piece               { return api.Piece{Kind: api.PUnit, Unit: u} }
func again(k int) api.Piece              { return api.Piece{Kind: api.PCopy, Key: k} }
func paired(k int, to api.Set) api.Piece { return api.Piece{Kind: api.PPair, Key: k, To: to} }

const (
	maxRune  = 0x10FFFF
	firstRaw = 0x110080
	lastRaw  = 0x1100FF
)

var (
	a   = of('a', 'a')
	abc = of('a', 'c')
	all = of(0, 0xD7FF, 0xE000, maxRune, firstRaw, lastRaw)
)

// noUnits are numbers at all edges, and far away.
var noUnits = []int{math.MinInt, math.MinInt + 1, -1 << 32, -0x110000, -'a', -1, 0xD800, 0xD801, 0xDBFF, 0xDC00, 0xDFFF, 0x110000, 0x110000 + 'a', 0x11007F, 0x110100, 1 << 32, 1<<32 + 'a', math.MaxInt - 1, math.MaxInt}

func fits(t *testing.T, r api.Rule, done, left []int, want bool) {
	t.Helper()
	if got := match.Fits(r, done, left); got != want {
		t.Errorf("%.300s between %.90s and %.90s: %v", fmt.Sprint(r), fmt.Sprint(done), fmt.Sprint(left), got)
	}
}

// fitsText holds a rule against rows of places, | between what is done and what is left: "xy|ab".
func fitsText(t *testing.T, text string, want bool, places ...string) {
	t.Helper()
	r := read(t, text).Rules[0]
	for _, place := range places {
		done, left, is := strings.Cut(place, "|")
		if !is {
			t.Fatalf("%s: no gap in %q", text, place)
		}
		if got := match.Fits(r, utf.Cut(done), utf.Cut(left)); got != want {
			t.Errorf("%s at %q: %v", text, place, got)
		}
	}
}

func TestKeys(t *testing.T) { // P9.1
	fitsText(t, "a > x", true, "|a", "|ab", "|aa", "x|a", "xyz|aé\xE2")
	fitsText(t, "a > x", false, "|", "|b", "|ba", "a|", "a|b", "aaa|xa")
	fitsText(t, "abc > x", true, "|abc", "|abcd", "|abcabc", "x|abc", "abc|abc")
	fitsText(t, "abc > x", false, "|", "|a", "|ab", "|abd", "|aba", "|xbc", "|axc", "|acb", "|cba", "|xabc", "a|bc", "ab|c", "abc|")
	fitsText(t, "[a-c][^a] > x", true, "|ab", "|bc", "|cx", "|cé", "|ab\xE2")
	fitsText(t, "[a-c][^a] > x", false, "|aa", "|db", "|ba", "|b", "|b\xE2", "|\xE2b")
	fitsText(t, "abcdefgh > x", true, "|abcdefgh", "|abcdefghi")
	fitsText(t, "abcdefgh > x", false, "|abcdefg", "|abcdefgx", "|xbcdefgh", "|abcdxfgh", "|bcdefgh")
}

func TestWhatIsBehind(t *testing.T) { // P9.1
	fitsText(t, "a } b > x", true, "|ab", "|abc", "|abb", "b|ab")
	fitsText(t, "a } b > x", false, "|", "|a", "|b", "|ac", "|ba", "|acb", "b|a", "ab|", "a|b", "|aab")
	fitsText(t, "ab } cd > x", true, "|abcd", "|abcde", "x|abcdcd")
	fitsText(t, "ab } cd > x", false, "|", "|a", "|ab", "|abc", "|abdc", "|abxd", "|abcx", "|cdab", "|abcab", "cd|ab", "ab|cd", "|cd")
	fitsText(t, "a } bcdefghi > x", true, "|abcdefghi", "|abcdefghij")
	fitsText(t, "a } bcdefghi > x", false, "|abcdefgh", "|abcdefghx", "|abcdefgxi", "|axcdefghi", "|abcdefgi")
}

func TestWhatIsAhead(t *testing.T) { // P9.1
	fitsText(t, "x { a > p", true, "x|a", "yx|a", "xx|a", "x|ab")
	fitsText(t, "x { a > p", false, "|a", "y|a", "xy|a", "|xa", "|ax", "x|", "x|b", "x|xa", "xa|")
	// Done's end is near: the last set stands at its last unit.
	fitsText(t, "xy { a > p", true, "xy|a", "zxy|a", "xxy|a", "yxy|a", "xyxy|ax")
	fitsText(t, "xy { a > p", false, "|a", "x|a", "y|a", "yx|a", "xyz|a", "xx|a", "yy|a", "xyx|a", "x|ya", "zy|a", "xzy|a")
	fitsText(t, "[x-z]y[^y] { a > p", true, "xyz|a", "yyé|a", "zzyz|a")
	fitsText(t, "[x-z]y[^y] { a > p", false, "xyy|a", "yyzy|a", "zyx\xE2|a", "wyz|a", "yz|a", "zyx|b")
	fitsText(t, "bcdefghi { a > p", true, "bcdefghi|a", "abcdefghi|a")
	fitsText(t, "bcdefghi { a > p", false, "cdefghi|a", "xcdefghi|a", "bcdefghx|a", "bcdxfghi|a", "bcdefgh|a", "bcdefghib|a", "ihgfedcb|a")
}

func TestBothSides(t *testing.T) { // P9.1
	fitsText(t, "xy { ab } cd > p", true, "xy|abcd", "zxy|abcde")
	fitsText(t, "xy { ab } cd > p", false, "xy|ab", "|abcd", "y|abcd", "xy|abc", "xy|cdab", "cd|abxy", "yx|abcd", "xy|abdc", "ab|cdxy", "xya|bcd", "x|yabcd")
	fitsText(t, ". { . } . > p", true, "a|aa", "aé|bbb", "\xE2|a\xFF€")
	fitsText(t, ". { . } . > p", false, "|aa", "a|a", "a|", "|", "|aaa", "aaa|")
}

func TestBegin(t *testing.T) { // P9.1
	fitsText(t, "^ { a > p", true, "|a", "|ab", "|aa")
	fitsText(t, "^ { a > p", false, "|", "|b", "a|a", "x|a", "xy|a", "\x00|a")
	fitsText(t, "^ x { a > p", true, "x|a", "x|ab")
	fitsText(t, "^ x { a > p", false, "|a", "xx|a", "yx|a", "y|a", "xy|a", "|xa")
	fitsText(t, "^ xyz { a > p", true, "xyz|a")
	fitsText(t, "^ xyz { a > p", false, "|a", "z|a", "yz|a", "zyx|a", "xyzz|a", "xxyz|a", "wxyz|a", "\xE2xyz|a", "xyzxyz|a")
	fitsText(t, "^ bcdefghi { a > p", true, "bcdefghi|a")
	fitsText(t, "^ bcdefghi { a > p", false, "abcdefghi|a", "cdefghi|a", "zzzzbcdefghi|a")
	// Without it something may stand ahead, and nothing need to.
	fitsText(t, "xyz { a > p", true, "xyz|a", "wxyz|a")
}

func TestEnd(t *testing.T) { // P9.1
	fitsText(t, "a } $ > p", true, "|a", "a|a", "xyz|a")
	fitsText(t, "a } $ > p", false, "|", "|b", "|aa", "|ab", "|a\x00", "|abc", "a|")
	fitsText(t, "a } b $ > p", true, "|ab", "x|ab")
	fitsText(t, "a } b $ > p", false, "|a", "|abc", "|abb", "|ba", "|ac", "|abcde")
	fitsText(t, "ab } cd $ > p", true, "|abcd")
	fitsText(t, "ab } cd $ > p", false, "|ab", "|abc", "|abcdd", "|abcde", "|abcd\xE2", "|abdc", "|abcdabcd")
	fitsText(t, "abcdefgh } ijklmnop $ > p", true, "|abcdefghijklmnop")
	fitsText(t, "abcdefgh } ijklmnop $ > p", false, "|abcdefghijklmno", "|abcdefghijklmnopq", "|abcdefghijklmnoq")
	fitsText(t, "ab } cd > p", true, "|abcd", "|abcde")
}

func TestBeginAndEnd(t *testing.T) { // P9.1
	fitsText(t, "^ { a } $ > p", true, "|a")
	fitsText(t, "^ { a } $ > p", false, "|", "a|", "|aa", "a|a", "a|aa", "|b")
	fitsText(t, "^ x { a } b $ > p", true, "x|ab")
	fitsText(t, "^ x { a } b $ > p", false, "xx|ab", "x|abb", "|ab", "x|a", "x|abc", "yx|ab", "xx|abb")
	fitsText(t, "^ { a } b > p", true, "|ab", "|abc")
	fitsText(t, "^ { a } b > p", false, "x|ab", "|a")
	fitsText(t, "x { a } $ > p", true, "x|a", "yx|a")
	fitsText(t, "x { a } $ > p", false, "x|ab", "|a")
	fitsText(t, "^ x { a } $ > p", true, "x|a")
	fitsText(t, "^ x { a } $ > p", false, "yx|a", "x|ax", "|a")
	fitsText(t, "^ { a } b $ > p", true, "|ab")
	fitsText(t, "^ { a } b $ > p", false, "x|ab", "|abb", "|a")
}

func TestHowManyStandOnEitherSide(t *testing.T) { // P9.1
	for ante := range 9 {
		for key := 1; key <= 8; key++ {
			for post := range 9 {
				for ends := range 4 {
					r := api.Rule{Begin: ends&1 > 0, End: ends&2 > 0, Ante: slices.Repeat(row(abc), ante), Key: slices.Repeat(row(a), key), Post: slices.Repeat(row(all), post)}
					for _, more := range []int{-ante, -1, 0, 1, 7} {
						done := slices.Repeat([]int{'b'}, max(ante+more, 0))
						for _, over := range []int{-key - post, -post - 1, -post, -1, 0, 1, 9} {
							left := slices.Repeat([]int{'a'}, max(key+post+over, 0))
							want := len(done) >= ante && len(left) >= key+post
							if r.Begin && len(done) > ante || r.End && len(left) > key+post {
								want = false
							}
							fits(t, r, done, left, want)
						}
					}
				}
			}
		}
	}
}

func TestEachPlaceHasItsSet(t *testing.T) { // P9.1
	// All sets are unlike, and one unit at a time is another one's.
	r := api.Rule{Ante: letters("ijklmnop"), Key: letters("abcdefgh"), Post: letters("qrstuvwx")}
	for _, ends := range []bool{false, true} {
		r.Begin, r.End = ends, ends
		done, left := utf.Cut("ijklmnop"), utf.Cut("abcdefghqrstuvwx")
		fits(t, r, done, left, true)
		for _, l := range [][]int{done, left} {
			for i, u := range l {
				for x := 'a' - 1; x <= 'y'; x++ {
					l[i] = int(x)
					fits(t, r, done, left, int(x) == u)
				}
				l[i] = u
			}
		}
		fits(t, r, left[8:], left[:8], false)
		fits(t, r, left[8:], slices.Concat(left[:8], done), false)
	}
}

func TestWhatIsNoUnitIsInNoSet(t *testing.T) { // P9.1
	r := api.Rule{Ante: row(all, all), Key: row(all, all), Post: row(all, all)}
	for _, u := range append(slices.Clone(noUnits), 'a') {
		want := u == 'a'
		for place := range 2 {
			done := []int{'a', 'a'}
			done[place] = u
			fits(t, r, done, utf.Cut("aaaa"), want)
		}
		for place := range 4 {
			left := utf.Cut("aaaa")
			left[place] = u
			fits(t, r, utf.Cut("aa"), left, want)
		}
		fits(t, api.Rule{Key: row(all)}, nil, []int{u}, want)
		// Where no set is asked for, anything may stand; and it is something.
		fits(t, r, []int{u, 'a', 'a'}, []int{'a', 'a', 'a', 'a', u}, true)
		fits(t, api.Rule{Key: row(all)}, []int{u}, []int{'a', u}, true)
		begin, end := r, r
		begin.Begin, end.End = true, true
		fits(t, begin, []int{u, 'a', 'a'}, utf.Cut("aaaa"), false)
		fits(t, end, utf.Cut("aa"), []int{'a', 'a', 'a', 'a', u}, false)
		fits(t, api.Rule{Key: row(a), Begin: true}, []int{u}, []int{'a'}, false)
		fits(t, api.Rule{Key: row(a), End: true}, nil, []int{'a', u}, false)
	}
}

func TestUnitsThatStandAlone(t *testing.T) { // P9.1
	for _, u := range []int{0, 1, 'a', 0x7F, 0x80, 0xFF, 0x7FF, 0x800, 0xD7FF, 0xE000, 0xFFFD, 0xFFFF, 0x10000, maxRune, firstRaw, firstRaw + 1, 0x1100C3, lastRaw} {
		r := api.Rule{Ante: row(of(u, u)), Key: row(of(u, u)), Post: row(of(u, u))}
		fits(t, r, []int{u}, []int{u, u}, true)
		for _, other := range slices.Concat(noUnits, []int{u - 1, u + 1, u ^ 0x80, u + 0x110000, u - 0x110000}) {
			fits(t, r, []int{other}, []int{u, u}, false)
			fits(t, r, []int{u}, []int{other, u}, false)
			fits(t, r, []int{u}, []int{u, other}, false)
		}
	}
}

func TestUnitsNeedNotBeProper(t *testing.T) { // P9.1
	// Three strays whose bytes would be one rune, a euro sign, are three units here, and not that rune.
	euro := []int{0x1100E2, 0x110082, 0x1100AC}
	three := api.Rule{Key: row(of(euro[0], euro[0]), of(euro[1], euro[1]), of(euro[2], euro[2]))}
	fits(t, three, nil, euro, true)
	fits(t, three, euro, euro, true)
	fits(t, three, nil, []int{'€'}, false)
	fits(t, api.Rule{Key: letters("€")}, nil, euro, false)
	fits(t, api.Rule{Key: letters("€")}, nil, []int{'€'}, true)
	ahead := api.Rule{Begin: true, Ante: three.Key, Key: row(a), Post: three.Key, End: true}
	fits(t, ahead, euro, slices.Concat([]int{'a'}, euro), true)
	fits(t, ahead, []int{'€'}, slices.Concat([]int{'a'}, euro), false)
	// FFFD is a rune, and no stray is it.
	fits(t, api.Rule{Key: row(of(0xFFFD, 0xFFFD))}, nil, euro[:1], false)
}

// refused are rules that rule.Check refuses, each for another reason, which would fit between x and a, all of them.
var refused = []api.Rule{
	{},
	{Ante: letters("x")},
	{Key: row(a), Ante: slices.Repeat(row(all), 9)},
	{Key: slices.Repeat(row(a), 9)},
	{Key: row(a), Post: slices.Repeat(row(a), 9)},
	{Key: row(a), Result: slices.Repeat(pieces(unit('a')), 17)},
	{Key: row(of('a', 'a', 'a', 'a'))},
	{Key: row(of('a', 'b', 'c', 'd'))},
	{Key: row(of('a', 'a', 'Z', 'Y'))},
	{Key: row(of(0, maxRune))},
	{Key: row(a, nil)},
	{Key: row(a), Ante: row(nil)},
	{Key: row(a), Post: row(of(0, 0xD800))},
	{Key: row(a), Result: pieces(unit(0xD800))},
	{Key: row(a), Result: pieces(api.Piece{})},
	{Key: row(a), Result: pieces(again(1))},
	{Key: row(a), Result: pieces(again(-1))},
	{Key: row(a), Result: pieces(paired(0, abc))},
	{Key: row(a), Result: pieces(paired(0, nil))},
	{Key: row(a), Cursor: 1},
	{Key: row(a), Cursor: -1},
}

func TestRulesThatMayNotBe(t *testing.T) { // P9.1
	codes := map[api.Errno]int{}
	for _, r := range refused {
		codes[rule.Check(r)]++
		for _, done := range [][]int{nil, {'x'}, slices.Repeat([]int{'x'}, 9), slices.Repeat([]int{'x'}, 30)} {
			for _, left := range [][]int{nil, {'a'}, slices.Repeat([]int{'a'}, 9), slices.Repeat([]int{'a'}, 10), slices.Repeat([]int{'a'}, 30)} {
				fits(t, r, done, left, false)
			}
		}
	}
	if len(codes) != 7 || codes[api.OK] > 0 {
		t.Errorf("not refused for all reasons: %v", codes)
	}
	// As soon as what is wrong is taken away, it fits.
	fits(t, api.Rule{Key: row(a), Result: pieces(again(0)), Cursor: 1}, []int{'x'}, []int{'a'}, true)
	fits(t, api.Rule{Key: row(a), Result: slices.Repeat(pieces(unit('a')), 16)}, nil, []int{'a'}, true)
}

func TestWhatARuleWritesIsNotSeen(t *testing.T) { // P9.1
	for _, result := range [][]api.Piece{nil, pieces(unit('z')), pieces(again(0), again(1)), pieces(paired(1, of('x', 'z')), unit(lastRaw), again(0))} {
		for cursor := range len(result) + 1 {
			r := api.Rule{Ante: letters("x"), Key: row(a, abc), Result: result, Cursor: cursor}
			fits(t, r, []int{'x'}, utf.Cut("ab"), true)
			fits(t, r, []int{'z'}, utf.Cut("ab"), false)
			fits(t, r, []int{'x'}, utf.Cut("ba"), false)
		}
	}
}
