package machine_test

import (
	"fmt"
	"math"
	"slices"
	"strings"
	"testing"

	"respell/api"
	"respell/machine"
	"respell/match"
	"respell/names"
	"respell/parse"
	"respell/utf"
)

// How passes are written in these tests: as a rules' text has them, or by hand where that can't.

// read is the pass of a rules' text; the last ; may be left out.
func read(t *testing.T, text string) api.Pass {
	t.Helper()
	if strings.TrimSpace(text) != "" && !strings.HasSuffix(text, ";") {
		text += " ;"
	}
	lines, fault := parse.Parse(text)
	if fault.Code != api.OK {
		t.Fatalf("%s: %v", text, fault)
	}
	passes, line, e := names.Passes(lines)
	if e != api.OK || len(passes) != 1 {
		t.Fatalf("%s: %d passes, %d, %d", text, len(passes), line, e)
	}
	return passes[0]
}

func of(n ...int) api.Set {
	var s api.Set
	for i := 0; i+1 < len(n); i += 2 {
		s = append(s, api.Range{Lo: n[i], Hi: n[i+1]})
	}
	return s
}

func row(l ...api.Set) []api.Set { return l }

// letters is a row of sets of one unit each.
func letters(text string) []api.Set {
	var l []api.Set
	for _, u := range utf.Cut(text) {
		l = append(l, of(u, u))
	}
	return l
}

func pieces(l ...api.Piece) []api.Piece { return l }

func unit(u int) api.Piece               { return api.Piece{Kind: api.PUnit, Unit: u} }
func again(k int) api.Piece              { return api.Piece{Kind: api.PCopy, Key: k} }
func paired(k int, to api.Set) api.Piece { return api.Piece{Kind: api.PPair, Key: k, To: to} }

func rules(l ...api.Rule) api.Pass { return api.Pass{Rules: l} }

const (
	maxRune  = 0x10FFFF
	firstRaw = 0x110080
	lastRaw  = 0x1100FF
)

var (
	a   = of('a', 'a')
	abc = of('a', 'c')
	xyz = of('x', 'z')
	all = of(0, 0xD7FF, 0xE000, maxRune, firstRaw, lastRaw)
)

// noUnits are numbers at all edges, and far away.
var noUnits = []int{math.MinInt, math.MinInt + 1, -1 << 32, -0x110000, -'a', -2, -1, 0xD800, 0xD801, 0xDBFF, 0xDC00, 0xDFFF, 0x110000, 0x110000 + 'a', 0x11007F, 0x110100, 0x110101, 1 << 32, 1<<32 + 'a', math.MaxInt - 1, math.MaxInt}

// made is the machine of a pass that may be.
func made(t *testing.T, p api.Pass) *machine.Machine {
	t.Helper()
	m, e := machine.New(p)
	if m == nil || e != api.OK {
		t.Fatalf("%.300s: a machine: %t, %d", fmt.Sprint(p), m != nil, e)
	}
	return m
}

// asked is a machine that is asked beside its pass.
type asked struct {
	*machine.Machine
	pass api.Pass
}

func about(t *testing.T, p api.Pass) asked {
	t.Helper()
	return asked{made(t, p), p}
}

// finds holds Find against what is wanted, and that against match.Find.
func (m asked) finds(t *testing.T, done, left []int, want int) {
	t.Helper()
	if got, other := m.Find(done, left), match.Find(m.pass, done, left); got != want || other != want {
		t.Errorf("%.300s between %.90s and %.90s: %d, and match tells %d; want %d", fmt.Sprint(m.pass), fmt.Sprint(done), fmt.Sprint(left), got, other, want)
	}
}

// findsText holds a pass against places, | between what is done and what is left.
func findsText(t *testing.T, text string, want int, places ...string) {
	t.Helper()
	m := about(t, read(t, text))
	for _, place := range places {
		done, left, is := strings.Cut(place, "|")
		if !is {
			t.Fatalf("%s: no gap in %q", text, place)
		}
		if got, other := m.Find(utf.Cut(done), utf.Cut(left)), match.Find(m.pass, utf.Cut(done), utf.Cut(left)); got != want || other != want {
			t.Errorf("%s at %q: %d, and match tells %d; want %d", text, place, got, other, want)
		}
	}
}

func TestFindExamples(t *testing.T) { // P12.2
	three := "a > x ; ab > y ; abc } $ > z"
	findsText(t, three, 2, "|abc")
	findsText(t, three, 1, "|abcd")
	findsText(t, three, 0, "|ax")
	findsText(t, three, -1, "|b")
	findsText(t, "x { a > y ; a > z", 0, "x|a", "yx|a")
	findsText(t, "x { a > y ; a > z", 1, "xy|a", "|a")
	findsText(t, "^ x { a > y", 0, "x|a")
	findsText(t, "^ x { a > y", -1, "yx|a")
	m := about(t, read(t, "[^a] > z"))
	m.finds(t, nil, []int{-5}, -1)
	m.finds(t, nil, []int{1114112}, -1)
	m.finds(t, nil, []int{'b'}, 0)
	m.finds(t, nil, nil, -1)
}

func TestNothingIsLeft(t *testing.T) { // P12.2
	for _, text := range []string{"", "a > x", ". > x", "^ { . } $ > x", ". { . > x ; .. > y"} {
		m := about(t, read(t, text))
		for _, done := range [][]int{nil, {}, {'a'}, {-1}, slices.Repeat([]int{'a'}, 100)} {
			m.finds(t, done, nil, -1)
			m.finds(t, done, []int{}, -1)
		}
	}
}

func TestNoRuleFits(t *testing.T) { // P12.2
	text := "a > x ; b } c > y ; x { d > z ; ^ { e > p ; f } $ > q"
	findsText(t, text, -1, "|", "a|", "|x", "|b", "|bb", "|d", "y|d", "xy|d", "x|e", "|ff", "|xa", "|\xE2")
	findsText(t, text, 0, "|a", "x|a", "|aa")
	findsText(t, text, 1, "|bc", "d|bcc")
	findsText(t, text, 2, "yx|d")
	findsText(t, text, 3, "|ee")
	findsText(t, text, 4, "f|f")
	for _, p := range []api.Pass{{}, {Rules: []api.Rule{}}} {
		m := about(t, p)
		m.finds(t, nil, []int{'a'}, -1)
		m.finds(t, []int{'a'}, []int{'a', -1}, -1)
		m.finds(t, []int{math.MinInt}, []int{math.MaxInt}, -1)
	}
}

func TestKeysOfEachLength(t *testing.T) { // P12.2, P12.5: the longest, in whatever order they stand
	whole := "abcdefgh"
	for _, order := range [][]int{{1, 2, 3, 4, 5, 6, 7, 8}, {8, 7, 6, 5, 4, 3, 2, 1}, {4, 8, 1, 6, 2, 7, 3, 5}} {
		var p, same api.Pass
		for _, n := range order {
			p.Rules = append(p.Rules, api.Rule{Key: letters(whole[:n])})
			same.Rules = append(same.Rules, api.Rule{Key: slices.Repeat(row(a), n)})
		}
		m, x := about(t, p), about(t, same)
		for n := range 9 {
			want := slices.Index(order, n)
			m.finds(t, nil, utf.Cut(whole[:n]+"x"), want)
			m.finds(t, nil, utf.Cut(whole[:n]+"zab"), want)
			m.finds(t, []int{'a'}, utf.Cut(whole[:n]), want)
			x.finds(t, nil, slices.Repeat([]int{'a'}, n), want)
			x.finds(t, nil, slices.Concat(slices.Repeat([]int{'a'}, n), []int{'b', 'a'}), want)
		}
		m.finds(t, nil, utf.Cut(whole+"ij"), slices.Index(order, 8))
		x.finds(t, nil, slices.Repeat([]int{'a'}, 40), slices.Index(order, 8))
	}
}

func TestKeysThatBeginAlike(t *testing.T) { // P12.2
	// With the same sets, and with sets that have units in common: a unit leads several ways.
	text := "abc > 0 ; abd > 1 ; ab > 2 ; [ab]bc > 3 ; a[bc]d > 4 ; a. > 5 ; .bcd > 6 ; b > 7 ; [bc]bb > 8"
	findsText(t, text, 0, "|abc", "|abca")
	findsText(t, text, 1, "|abd", "|abdd")
	findsText(t, text, 2, "|ab", "|aba", "|abé")
	findsText(t, text, 3, "|bbc", "|bbcc")
	findsText(t, text, 4, "|acd")
	findsText(t, text, 5, "|ac", "|aa", "|a\xFF", "|acc")
	findsText(t, text, 6, "|abcd", "|bbcd", "|xbcd", "|\xFFbcd")
	findsText(t, text, 7, "|b", "|bb", "|ba")
	findsText(t, text, 8, "|bbb", "|cbb")
	findsText(t, text, -1, "|a", "|c", "|cb", "|xbc", "|xbc")
	// Where the way that goes on is no good, the others count: at each depth.
	findsText(t, "[ab][ab][ab]x > 0 ; aa[bc] > 1 ; a[ac] > 2 ; [ad] > 3", 0, "|aabx", "|babx")
	findsText(t, "[ab][ab][ab]x > 0 ; aa[bc] > 1 ; a[ac] > 2 ; [ad] > 3", 1, "|aab", "|aaby", "|aac")
	findsText(t, "[ab][ab][ab]x > 0 ; aa[bc] > 1 ; a[ac] > 2 ; [ad] > 3", 2, "|aa", "|aad", "|ac")
	findsText(t, "[ab][ab][ab]x > 0 ; aa[bc] > 1 ; a[ac] > 2 ; [ad] > 3", 3, "|ab", "|d", "|a")
	findsText(t, "[ab][ab][ab]x > 0 ; aa[bc] > 1 ; a[ac] > 2 ; [ad] > 3", -1, "|bab", "|b", "|")
}

func TestTheSameKeyTwice(t *testing.T) { // P12.2: of those as long that fit, the first one
	text := "ab > 0 ; x { ab > 1 ; ab > 2"
	findsText(t, text, 0, "|ab", "x|ab")
	text = "x { ab > 0 ; ab } c > 1 ; ^ { ab > 2 ; ab } $ > 3 ; ab > 4 ; ab > 5"
	findsText(t, text, 0, "x|ab", "x|abc", "yx|abd")
	findsText(t, text, 1, "|abc", "y|abc", "xy|abcd")
	findsText(t, text, 2, "|ab", "|abd")
	findsText(t, text, 3, "y|ab", "xy|ab")
	findsText(t, text, 4, "y|abd", "xy|abb")
	// As long, but not the same: whichever way leads to it.
	findsText(t, "[bc]b > 0 ; [ab]b > 1 ; ab > 2 ; .b > 3", 1, "|ab")
	findsText(t, "[bc]b > 0 ; [ab]b > 1 ; ab > 2 ; .b > 3", 0, "|bb", "|cb")
	findsText(t, "[bc]b > 0 ; [ab]b > 1 ; ab > 2 ; .b > 3", 3, "|db", "|\xFFb")
	findsText(t, ".b > 0 ; ab > 1", 0, "|ab")
	findsText(t, "b. > 0 ; a[b-d] > 1 ; ab > 2 ; [ab]b > 3 ; a > 4", 1, "|ab", "|ac", "|ad")
	findsText(t, "x { .b > 0 ; ab > 1 ; [ab][ab] > 2", 0, "x|ab", "x|zb")
	findsText(t, "x { .b > 0 ; ab > 1 ; [ab][ab] > 2", 1, "|ab", "y|ab")
	findsText(t, "x { .b > 0 ; ab > 1 ; [ab][ab] > 2", 2, "|bb", "x|aa")
	l := slices.Repeat([]api.Rule{{Key: row(a, a)}}, 256)
	about(t, rules(l...)).finds(t, nil, []int{'a', 'a'}, 0)
	for _, n := range []int{0, 1, 63, 64, 100, 127, 128, 255} {
		one := slices.Repeat([]api.Rule{{Key: letters("ab")}}, 256)
		one[n] = api.Rule{Key: row(a, a)}
		about(t, rules(one...)).finds(t, nil, []int{'a', 'a'}, n)
		one[n] = api.Rule{Key: letters("aba")}
		about(t, rules(one...)).finds(t, nil, utf.Cut("abab"), n)
		one[n] = api.Rule{Key: letters("ab"), Ante: letters("x")}
		about(t, rules(one...)).finds(t, []int{'x'}, utf.Cut("ab"), 0)
		about(t, rules(one[n:]...)).finds(t, []int{'x'}, utf.Cut("ab"), 0)
	}
}

func TestALongerKeyHidesNoShorterOne(t *testing.T) { // P12.5
	text := "x { abc > 0 ; ab } y > 1 ; ^ { abcd > 2 ; ab } $ > 3 ; a > 4 ; a } b > 5"
	findsText(t, text, 2, "|abcd", "|abcde")
	findsText(t, text, 0, "x|abcd", "x|abc", "yx|abcy")
	findsText(t, text, 4, "|abc", "|a", "y|abcd", "xy|abc", "x|ac", "|ax")
	findsText(t, text, 1, "|aby", "x|abyz")
	findsText(t, text, 3, "|ab", "x|ab")
	// Seven longer ones, none of which fits.
	var p api.Pass
	for n := 8; n > 0; n-- {
		p.Rules = append(p.Rules, api.Rule{Key: slices.Repeat(row(a), n), Ante: letters("abcdefgh"[:n-1])})
	}
	m := about(t, p)
	for n := range 8 {
		m.finds(t, utf.Cut("abcdefgh"[:n]), slices.Repeat([]int{'a'}, 9), 7-n)
	}
	m.finds(t, []int{'x'}, slices.Repeat([]int{'a'}, 9), 7)
}

func TestContextsMakeNoKeyLonger(t *testing.T) { // P12.2
	findsText(t, "a > 0 ; x { a } bc > 1 ; ^ x { a } bc $ > 2", 0, "x|abc")
	findsText(t, "x { a } b > 0 ; ab > 1", 1, "x|ab", "|ab")
	findsText(t, "x { a } b > 0 ; [ac] > 1", 0, "x|ab")
	findsText(t, "[ac] > 0 ; x { a } b > 1", 0, "x|ab", "x|a")
}

func TestWhatIsAhead(t *testing.T) { // P12.2
	findsText(t, "xy { a > p", 0, "xy|a", "zxy|a", "xxy|a", "yxy|a", "xyxy|ax")
	findsText(t, "xy { a > p", -1, "|a", "x|a", "y|a", "yx|a", "xyz|a", "xx|a", "yy|a", "xyx|a", "x|ya", "zy|a", "xzy|a")
	findsText(t, "[x-z]y[^y] { a > p", 0, "xyz|a", "yyé|a", "zzyz|a")
	findsText(t, "[x-z]y[^y] { a > p", -1, "xyy|a", "yyzy|a", "zyx\xE2|a", "wyz|a", "yz|a", "zyx|b")
	findsText(t, "bcdefghi { a > p", 0, "bcdefghi|a", "abcdefghi|a", "bcdefghibcdefghi|a")
	findsText(t, "bcdefghi { a > p", -1, "cdefghi|a", "xcdefghi|a", "bcdefghx|a", "bcdxfghi|a", "bcdefgh|a", "bcdefghib|a", "ihgfedcb|a")
	// Antes that begin alike, lie across one another, and are the ends of one another.
	text := "xyx { a > 0 ; xyxy { a > 1 ; yx { a > 2 ; [xy]y { a > 3 ; y { a > 4 ; x { a > 5 ; . { a > 6 ; a > 7"
	findsText(t, text, 0, "xyx|a", "yxyx|a", "xyxyx|a", "zxyx|a")
	findsText(t, text, 1, "xyxy|a", "yxyxy|a", "xyxyxy|a")
	findsText(t, text, 2, "yx|a", "yyx|a", "zyx|a")
	findsText(t, text, 3, "xy|a", "yy|a", "yxxy|a", "zyxy|a")
	findsText(t, text, 4, "y|a", "zy|a")
	findsText(t, text, 5, "x|a", "xx|a", "zx|a")
	findsText(t, text, 6, "z|a", "xz|a", "a|a", "\xFF|a")
	findsText(t, text, 7, "|a", "|aa")
	// A run of units that are alike: the state forgets what is too far away.
	findsText(t, "y.... { a > 0 ; y... { a > 1 ; y.. { a > 2", 0, "yzzzz|a", "xyxzzz|a", "yyyyyy|a", "yyzzzz|a")
	findsText(t, "y.... { a > 0 ; y... { a > 1 ; y.. { a > 2", 1, "yzzz|a", "zyzzz|a", "yzyzzz|a", "zyyyz|a")
	findsText(t, "y.... { a > 0 ; y... { a > 1 ; y.. { a > 2", 2, "yzz|a", "zyyz|a")
	findsText(t, "y.... { a > 0 ; y... { a > 1 ; y.. { a > 2", -1, "yzzzzz|a", "zzz|a", "yz|a", "zyyzzzzz|a")
}

func TestWhatIsBehind(t *testing.T) { // P12.2
	findsText(t, "ab } cd > x", 0, "|abcd", "|abcde", "x|abcdcd")
	findsText(t, "ab } cd > x", -1, "|", "|a", "|ab", "|abc", "|abdc", "|abxd", "|abcx", "|cdab", "|abcab", "cd|ab", "ab|cd", "|cd")
	findsText(t, "a } bcdefghi > x", 0, "|abcdefghi", "|abcdefghij")
	findsText(t, "a } bcdefghi > x", -1, "|abcdefgh", "|abcdefghx", "|abcdefgxi", "|axcdefghi", "|abcdefgi")
	findsText(t, "abcdefgh } ijklmnop > x", 0, "|abcdefghijklmnop", "|abcdefghijklmnopq")
	findsText(t, "abcdefgh } ijklmnop > x", -1, "|abcdefghijklmno", "|abcdefghijklmnoq", "|abcdefghxjklmnop", "|abcdefgxijklmnop")
	findsText(t, "a } .. > x", 0, "|abc", "|aa\xE2")
	findsText(t, "a } .. > x", -1, "|ab", "|a")
}

func TestBeginAndEnd(t *testing.T) { // P12.2
	findsText(t, "^ { a > p", 0, "|a", "|ab", "|aa")
	findsText(t, "^ { a > p", -1, "|", "|b", "a|a", "x|a", "xy|a", "\x00|a", "0123456789|a")
	findsText(t, "^ xyz { a > p", 0, "xyz|a")
	findsText(t, "^ xyz { a > p", -1, "|a", "z|a", "yz|a", "zyx|a", "xyzz|a", "xxyz|a", "wxyz|a", "\xE2xyz|a", "xyzxyz|a")
	findsText(t, "^ bcdefghi { a > p", 0, "bcdefghi|a")
	findsText(t, "^ bcdefghi { a > p", -1, "abcdefghi|a", "cdefghi|a", "zzzzbcdefghi|a")
	findsText(t, "a } $ > p", 0, "|a", "a|a", "xyz|a")
	findsText(t, "a } $ > p", -1, "|", "|b", "|aa", "|ab", "|a\x00", "|abc", "a|", "|a0123456789012345678")
	findsText(t, "ab } cd $ > p", 0, "|abcd")
	findsText(t, "ab } cd $ > p", -1, "|ab", "|abc", "|abcdd", "|abcde", "|abcd\xE2", "|abdc", "|abcdabcd")
	findsText(t, "abcdefgh } ijklmnop $ > p", 0, "|abcdefghijklmnop")
	findsText(t, "abcdefgh } ijklmnop $ > p", -1, "|abcdefghijklmno", "|abcdefghijklmnopq", "|abcdefghijklmnoq", "|abcdefghijklmnopqr")
	findsText(t, "^ x { a } b $ > p", 0, "x|ab")
	findsText(t, "^ x { a } b $ > p", -1, "xx|ab", "x|abb", "|ab", "x|a", "x|abc", "yx|ab", "xx|abb")
	// The same ante, with and without a beginning.
	findsText(t, "^ x { a > 0 ; x { a > 1 ; ^ { a > 2 ; a > 3", 0, "x|a")
	findsText(t, "^ x { a > 0 ; x { a > 1 ; ^ { a > 2 ; a > 3", 1, "xx|a", "yx|a")
	findsText(t, "^ x { a > 0 ; x { a > 1 ; ^ { a > 2 ; a > 3", 2, "|a")
	findsText(t, "^ x { a > 0 ; x { a > 1 ; ^ { a > 2 ; a > 3", 3, "y|a", "xy|a")
	findsText(t, "a } x $ > 0 ; a } x > 1 ; a } $ > 2 ; a > 3", 0, "|ax")
	findsText(t, "a } x $ > 0 ; a } x > 1 ; a } $ > 2 ; a > 3", 1, "|axx", "|axy")
	findsText(t, "a } x $ > 0 ; a } x > 1 ; a } $ > 2 ; a > 3", 2, "|a")
	findsText(t, "a } x $ > 0 ; a } x > 1 ; a } $ > 2 ; a > 3", 3, "|ay", "|ayx")
}

func TestHowManyStandOnEitherSide(t *testing.T) { // P12.2
	for ante := range 9 {
		for key := 1; key <= 8; key++ {
			for post := range 9 {
				for ends := range 4 {
					r := api.Rule{Begin: ends&1 > 0, End: ends&2 > 0, Ante: slices.Repeat(row(abc), ante), Key: slices.Repeat(row(a), key), Post: slices.Repeat(row(all), post)}
					m := made(t, rules(r))
					for _, more := range []int{-ante, -1, 0, 1, 7} {
						done := slices.Repeat([]int{'b'}, max(ante+more, 0))
						for _, over := range []int{-key - post, -post - 1, -post, -1, 0, 1, 9} {
							left := slices.Repeat([]int{'a'}, max(key+post+over, 0))
							want := 0
							if len(done) < ante || len(left) < key+post || r.Begin && len(done) > ante || r.End && len(left) > key+post {
								want = -1
							}
							if got := m.Find(done, left); got != want {
								t.Errorf("%v between %d and %d: %d", r, len(done), len(left), got)
							}
						}
					}
				}
			}
		}
	}
}

func TestEachPlaceHasItsSet(t *testing.T) { // P12.2
	// All sets are unlike, and one unit at a time is another one's.
	r := api.Rule{Ante: letters("ijklmnop"), Key: letters("abcdefgh"), Post: letters("qrstuvwx")}
	for _, ends := range []bool{false, true} {
		r.Begin, r.End = ends, ends
		m := about(t, rules(r))
		done, left := utf.Cut("ijklmnop"), utf.Cut("abcdefghqrstuvwx")
		m.finds(t, done, left, 0)
		for _, l := range [][]int{done, left} {
			for i, u := range l {
				for x := 'a' - 1; x <= 'y'; x++ {
					want := -1
					if int(x) == u {
						want = 0
					}
					l[i] = int(x)
					m.finds(t, done, left, want)
				}
				l[i] = u
			}
		}
		m.finds(t, left[8:], left[:8], -1)
		m.finds(t, left[8:], slices.Concat(left[:8], done), -1)
	}
}

func TestWhatIsNoUnitIsInNoSet(t *testing.T) { // P12.2
	r := api.Rule{Ante: row(all, all), Key: row(all, all), Post: row(all, all)}
	begin, end := r, r
	begin.Begin, end.End = true, true
	m, b, e := about(t, rules(r)), about(t, rules(begin)), about(t, rules(end))
	one, two := about(t, rules(api.Rule{Key: row(all)})), about(t, rules(api.Rule{Key: row(all, all)}, api.Rule{Key: row(all)}))
	first, last := about(t, rules(api.Rule{Key: row(a), Begin: true})), about(t, rules(api.Rule{Key: row(a), End: true}))
	for _, u := range append(slices.Clone(noUnits), 'a') {
		want := -1
		if u == 'a' {
			want = 0
		}
		for place := range 2 {
			done := []int{'a', 'a'}
			done[place] = u
			m.finds(t, done, utf.Cut("aaaa"), want)
			m.finds(t, slices.Concat([]int{'a', u}, done), utf.Cut("aaaa"), want)
		}
		for place := range 4 {
			left := utf.Cut("aaaa")
			left[place] = u
			m.finds(t, utf.Cut("aa"), left, want)
			m.finds(t, utf.Cut("aaa"), slices.Concat(left, []int{u}), want)
		}
		one.finds(t, nil, []int{u}, want)
		one.finds(t, nil, []int{u, 'a'}, want)
		two.finds(t, []int{u}, []int{u, 'a'}, want)
		two.finds(t, []int{u}, []int{'a', u}, -want)
		// Where no set is asked for, anything may stand; and it is something.
		m.finds(t, []int{u, 'a', 'a'}, []int{'a', 'a', 'a', 'a', u}, 0)
		one.finds(t, []int{u}, []int{'a', u}, 0)
		b.finds(t, []int{u, 'a', 'a'}, utf.Cut("aaaa"), -1)
		b.finds(t, []int{'a', 'a'}, []int{'a', 'a', 'a', 'a', u}, 0)
		e.finds(t, utf.Cut("aa"), []int{'a', 'a', 'a', 'a', u}, -1)
		e.finds(t, []int{u, 'a', 'a'}, utf.Cut("aaaa"), 0)
		first.finds(t, []int{u}, []int{'a'}, -1)
		last.finds(t, nil, []int{'a', u}, -1)
		// Behind it what is ahead begins anew, and nothing before it is forgotten wrongly.
		m.finds(t, []int{u, u, 'a', 'a'}, utf.Cut("aaaa"), 0)
	}
}

func TestUnitsThatStandAlone(t *testing.T) { // P12.2
	for _, u := range []int{0, 1, 'a', 0x7F, 0x80, 0xFF, 0x7FF, 0x800, 0xD7FF, 0xE000, 0xFFFD, 0xFFFF, 0x10000, maxRune, firstRaw, firstRaw + 1, 0x1100C3, lastRaw} {
		m := about(t, rules(api.Rule{Ante: row(of(u, u)), Key: row(of(u, u)), Post: row(of(u, u))}))
		m.finds(t, []int{u}, []int{u, u}, 0)
		for _, other := range slices.Concat(noUnits, []int{u - 1, u + 1, u ^ 0x80, u + 0x110000, u - 0x110000}) {
			m.finds(t, []int{other}, []int{u, u}, -1)
			m.finds(t, []int{u}, []int{other, u}, -1)
			m.finds(t, []int{u}, []int{u, other}, -1)
		}
	}
}

func TestUnitsNeedNotBeProper(t *testing.T) { // P12.2
	// Three strays whose bytes would be one rune, a euro sign, are three units here, and not that rune.
	euro := []int{0x1100E2, 0x110082, 0x1100AC}
	key := row(of(euro[0], euro[0]), of(euro[1], euro[1]), of(euro[2], euro[2]))
	three, sign := about(t, rules(api.Rule{Key: key})), about(t, rules(api.Rule{Key: letters("€")}))
	three.finds(t, euro, euro, 0)
	three.finds(t, nil, []int{'€'}, -1)
	sign.finds(t, nil, euro, -1)
	sign.finds(t, nil, []int{'€'}, 0)
	ahead := about(t, rules(api.Rule{Begin: true, Ante: key, Key: row(a), Post: key, End: true}))
	ahead.finds(t, euro, slices.Concat([]int{'a'}, euro), 0)
	ahead.finds(t, []int{'€'}, slices.Concat([]int{'a'}, euro), -1)
	about(t, rules(api.Rule{Key: row(of(0xFFFD, 0xFFFD))})).finds(t, nil, euro[:1], -1)
}

func TestWhatARuleWritesIsNotSeen(t *testing.T) { // P12.2
	for _, result := range [][]api.Piece{nil, pieces(unit('z')), pieces(again(1), unit('y')), pieces(paired(1, xyz), unit(lastRaw), again(1))} {
		for cursor := range len(result) + 1 {
			m := about(t, rules(api.Rule{Ante: letters("x"), Key: row(a, abc), Result: result, Cursor: cursor}))
			m.finds(t, []int{'x'}, utf.Cut("ab"), 0)
			m.finds(t, []int{'z'}, utf.Cut("ab"), -1)
			m.finds(t, []int{'x'}, utf.Cut("ba"), -1)
		}
	}
}
