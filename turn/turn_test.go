package turn_test

import (
	"fmt"
	"slices"
	"strings"
	"testing"

	"respell/api"
	"respell/names"
	"respell/parse"
)

// How passes are written in these tests: as a rules' text has them, or by hand where that can't.

// read is the pass of a rules' text; the last ; may be left out.
func read(t *testing.T, text string) api.Pass {
	t.Helper()
	if strings.TrimSpace(text) != "" && !strings.HasSuffix(text, ";") {
		text += " ;"
	}
	lines, fault := parse.Parse(text)
	if fault.Code != api.OK {
		t.Fatalf("%s: %v", text, fault)
	}
	passes, line, e := names.Passes(lines)
	if e != api.OK || len(passes) != 1 {
		t.Fatalf("%s: %d passes, %d, %d", text, len(passes), line, e)
	}
	return passes[0]
}

func of(n ...int) api.Set {
	var s api.Set
	for i := 0; i+1 < len(n); i += 2 {
		s = append(s, api.Range{Lo: n[i], Hi: n[i+1]})
	}
	return s
}

func row(l ...api.Set) []api.Set { return l }

func pieces(l ...api.Piece) []api.Piece { return l }

func unit(u int) api.Piece               { return api.Piece{Kind: api.PUnit, Unit: u} }
func again(k int) api.Piece              { return api.Piece{Kind: api.PCopy, Key: k} }
func paired(k int, to api.Set) api.Piece { return api.Piece{Kind: api.PPair, Key: k, To: to} }

func rules(l ...api.Rule) api.Pass { return api.Pass{Rules: l} }

func brief(p api.Pass) string { return fmt.Sprintf("%.600s", fmt.Sprint(p)) }

func shown(s api.Set) string { return fmt.Sprintf("%.200s", fmt.Sprintf("%x", s)) }

const (
	maxRune  = 0x10FFFF
	firstRaw = 0x110080
	lastRaw  = 0x1100FF
)

var (
	a   = of('a', 'a')
	abc = of('a', 'c')
	all = of(0, 0xD7FF, 0xE000, maxRune, firstRaw, lastRaw)
)

// is holds whether a pass can be turned against the words, and against what is wanted.
func is(t *testing.T, p api.Pass, n int, code api.Errno) {
	t.Helper()
	if _, m, e := told(t, p); m != n || e != code {
		t.Errorf("%s: %d, %d; want %d, %d", brief(p), m, e, n, code)
	}
}

func isText(t *testing.T, text string, n int, code api.Errno) {
	t.Helper()
	if _, m, e := told(t, read(t, text)); m != n || e != code {
		t.Errorf("%s: %d, %d; want %d, %d", text, m, e, n, code)
	}
}

func fine(t *testing.T, texts ...string) {
	t.Helper()
	for _, text := range texts {
		isText(t, text, 0, api.OK)
	}
}

func refused(t *testing.T, code api.Errno, texts ...string) {
	t.Helper()
	for _, text := range texts {
		isText(t, text, 0, code)
	}
}

// wrong is rules that can't be turned, each for one reason alone. They have no unit in common with those of good.
var wrong = map[string]api.Errno{
	"a > ": api.ErrTurnResult, "a > | x": api.ErrTurnResult, "a > x | y": api.ErrTurnResult, "a > \\b{A9}": api.ErrTurnResult, "\\b{A9} > @1": api.ErrTurnResult, "[ab] > @1:[\\b{80}\\b{82}]": api.ErrTurnResult,
	"a > xxxxxxxxx":  api.ErrTurnMany,
	"[ab] > x":       api.ErrTurnTwice,
	"[ab] > @1@1":    api.ErrTurnTwice,
	"a[bc] > @1 x":   api.ErrTurnTwice,
	"k { a > k":      api.ErrTurnContext,
	"x { a > x":      api.ErrTurnContext,
	"a } a > x":      api.ErrTurnContext,
	"a } x > x":      api.ErrTurnContext,
	"a } kxl > @1 x": api.ErrTurnContext,
}

// elsewhere brings a rule of wrong to other units, so that it brings those beside it no other fault.
var elsewhere = strings.NewReplacer("\\b{A9}", "\\b{C9}", "\\b{80}\\b{82}", "\\b{90}\\b{92}", "a", "A", "b", "B", "c", "C", "x", "X", "k", "K", "l", "L")

var good = []string{"m > n", "n > o", "mn > PQ"}

func TestEachErrorAlone(t *testing.T) { // P19.1: at the first rule, amidst, at the last
	fine(t, strings.Join(good, ";"))
	for text, code := range wrong {
		refused(t, code, text)
		for n := range len(good) + 1 {
			isText(t, strings.Join(slices.Insert(slices.Clone(good), n, text), ";"), n, code)
		}
		p := rules(slices.Repeat(read(t, "m > n").Rules, 256)...)
		for _, n := range []int{0, 100, 255} {
			p.Rules[n] = read(t, text).Rules[0]
			is(t, p, n, code)
			p.Rules[n] = p.Rules[1]
		}
	}
}

// clashes is pairs of rules that can't both be turned. They have no unit in common with those of good.
var clashes = []struct {
	one, other string
	code       api.Errno
}{
	{"a > x", "b > x", api.ErrTurnTwice},
	{"a > a", "a > @1", api.ErrTurnTwice},
	{"[ab] > @1:[xy]", "[bc] > @1:[yz]", api.ErrTurnTwice},
	{"a > x", "b > xy", api.ErrTurnPrefix},
	{"a > xyz", "b > x", api.ErrTurnPrefix},
}

func TestEachClashAlone(t *testing.T) { // P19.1: the number is that of the second one
	for _, x := range clashes {
		for i := range len(good) + 1 {
			for j := i; j < len(good)+1; j++ {
				l := slices.Insert(slices.Clone(good), j, x.other)
				isText(t, strings.Join(slices.Insert(l, i, x.one), ";"), j+1, x.code)
				l = slices.Insert(slices.Clone(good), j, x.one)
				isText(t, strings.Join(slices.Insert(l, i, x.other), ";"), j+1, x.code)
			}
		}
		p := rules(slices.Repeat(read(t, "m > n").Rules, 256)...)
		for _, at := range [][2]int{{0, 1}, {0, 255}, {254, 255}, {100, 200}} {
			p.Rules[at[0]], p.Rules[at[1]] = read(t, x.one).Rules[0], read(t, x.other).Rules[0]
			is(t, p, at[1], x.code)
			p.Rules[at[0]], p.Rules[at[1]] = p.Rules[50], p.Rules[50]
		}
	}
}

func TestTwoErrorsInOneRule(t *testing.T) { // P19.1: in the order of the chapter
	refused(t, api.ErrTurnResult, "a > xxxxxxxxx | x", "a > xxxxxxxx \\b{80}", "a > | xxxxxxxxx")
	refused(t, api.ErrTurnResult, "[ab] > ", "[ab] > x | y", "[ab] > \\b{80}", "[ab] > @1@1\\b{80}", "[\\b{80}\\b{81}] > @1@1", "[ab] > @1 | y")
	refused(t, api.ErrTurnResult, "a } a > ", "x { a > | x", "a } 1 > 1 \\b{80}", "1 { a > 1 | x")
	refused(t, api.ErrTurnMany, "[ab] > xxxxxxxxx", "[ab] > @1@1 xxxxxxx", "[ab][cd] > @2 xxxxxxxx")
	refused(t, api.ErrTurnMany, "a } a > xxxxxxxxx", "x { a > xxxxxxxxx", "a } 1 > 111111111")
	refused(t, api.ErrTurnTwice, "[ab] } a > x", "x { [ab] > x", "[ab] } 1 > @1@1 1", "[ab] } c > @1:[cd] @1")
	refused(t, api.ErrTurnResult, "b { [ab] > \\b{80} xxxxxxxx", "b { [ab] > xxxxxxxxx | x")
	refused(t, api.ErrTurnMany, "b { [ab] > xxxxxxxxx")
}

func TestTwoErrorsInTwoRules(t *testing.T) { // P19.1: of the first of them
	for one, code := range wrong {
		for other := range wrong {
			far := elsewhere.Replace(other)
			isText(t, one+";"+far, 0, code)
			isText(t, "m > n;"+one+"; n > o ;"+far, 1, code)
			isText(t, "m > n;"+far+"; n > o ;"+one, 1, wrong[other])
		}
	}
	// By rules, not by reasons.
	isText(t, "[ab] > x ; c > ", 0, api.ErrTurnTwice)
	isText(t, "a } x > x ; b > ", 0, api.ErrTurnContext)
	isText(t, "a } x > x ; [bc] > y", 0, api.ErrTurnContext)
	isText(t, "a } x > x ; b > yyyyyyyyy", 0, api.ErrTurnContext)
	isText(t, "a > xxxxxxxxx ; b > ", 0, api.ErrTurnMany)
}

func TestARuleByItselfAheadOfPairs(t *testing.T) { // P19.1
	for text, code := range wrong {
		far := elsewhere.Replace(text)
		for _, x := range clashes {
			isText(t, x.one+";"+x.other+"; m > n ;"+far, 3, code)
			isText(t, x.one+";"+far+";"+x.other, 1, code)
			isText(t, far+";"+x.one+";"+x.other, 0, code)
		}
	}
	// Also if it is the second one of the pair itself.
	isText(t, "a > x ; [bc] > x", 1, api.ErrTurnTwice)
	isText(t, "a > x ; [bc] > x | y", 1, api.ErrTurnResult)
	isText(t, "a > x ; b > xyyyyyyyy", 1, api.ErrTurnMany)
	isText(t, "a > x ; x { b > xy", 1, api.ErrTurnContext)
	isText(t, "a > x ; b > xy ; [cd] > e", 2, api.ErrTurnTwice)
}

func TestTheFirstPair(t *testing.T) { // P19.1: by the second rule, then by the first one
	// The second rule counts first.
	isText(t, "a > x ; b > yz ; c > y ; d > x", 2, api.ErrTurnPrefix)
	isText(t, "a > x ; b > yz ; c > x ; d > y", 2, api.ErrTurnTwice)
	isText(t, "a > x ; b > y ; c > yz ; d > x", 2, api.ErrTurnPrefix)
	isText(t, "a > x ; b > x ; c > xy", 1, api.ErrTurnTwice)
	isText(t, "a > xy ; b > x ; c > x", 1, api.ErrTurnPrefix)
	// Of one second rule, the first of the rules ahead.
	isText(t, "[pq] > @1:[AB] X ; [rs] > @1:[CD] ; [tuvw] > @1:[A-D]", 2, api.ErrTurnPrefix)
	isText(t, "[rs] > @1:[CD] ; [pq] > @1:[AB] X ; [tuvw] > @1:[A-D]", 2, api.ErrTurnTwice)
	isText(t, "m > n ; [pq] > @1:[AB] X ; n > o ; [rs] > @1:[CD] ; [tuvw] > @1:[A-D] ; z > nn", 4, api.ErrTurnPrefix)
}

func TestWhatWeighRefuses(t *testing.T) { // P19.1: ahead of all else
	for _, x := range []struct {
		rule api.Rule
		code api.Errno
	}{
		{api.Rule{}, api.ErrRuleKey},
		{api.Rule{Key: slices.Repeat(row(a), 9)}, api.ErrRuleKey},
		{api.Rule{Key: row(a), Ante: slices.Repeat(row(a), 9)}, api.ErrRuleMany},
		{api.Rule{Key: row(a), Post: slices.Repeat(row(a), 9)}, api.ErrRuleMany},
		{api.Rule{Key: row(a), Result: slices.Repeat(pieces(unit('a')), 17), Cursor: 17}, api.ErrRuleMany},
		{api.Rule{Key: row(of('b', 'a'))}, api.ErrRuleSet},
		{api.Rule{Key: row(a, nil)}, api.ErrRuleSet},
		{api.Rule{Key: row(a), Ante: row(of(0, maxRune))}, api.ErrRuleSet},
		{api.Rule{Key: row(a), Post: row(nil)}, api.ErrRuleSet},
		{api.Rule{Key: row(a), Result: pieces(unit(0xD800)), Cursor: 1}, api.ErrRulePiece},
		{api.Rule{Key: row(a), Result: pieces(api.Piece{}), Cursor: 1}, api.ErrRulePiece},
		{api.Rule{Key: row(a), Result: pieces(api.Piece{Kind: 4}), Cursor: 1}, api.ErrRulePiece},
		{api.Rule{Key: row(a), Result: pieces(again(1)), Cursor: 1}, api.ErrRuleCopy},
		{api.Rule{Key: row(a), Result: pieces(again(-1)), Cursor: 1}, api.ErrRuleCopy},
		{api.Rule{Key: row(a), Result: pieces(paired(0, abc)), Cursor: 1}, api.ErrRulePair},
		{api.Rule{Key: row(a), Cursor: 1}, api.ErrRuleCursor},
		{api.Rule{Key: row(a), Result: pieces(unit('b')), Cursor: -1}, api.ErrRuleCursor},
		{api.Rule{Key: row(a), Result: pieces(again(0))}, api.ErrWeighBack},
		{api.Rule{Key: row(a, a), Result: pieces(again(1), again(1))}, api.ErrWeighBack},
		{api.Rule{Key: row(a), Result: pieces(unit('a'))}, api.ErrWeighMost},
	} {
		l := read(t, strings.Join(good, ";")).Rules
		for n := range len(l) + 1 {
			is(t, rules(slices.Insert(slices.Clone(l), n, x.rule)...), n, x.code)
		}
		for text := range wrong {
			is(t, rules(read(t, text).Rules[0], x.rule), 1, x.code)
		}
		for _, y := range clashes {
			is(t, rules(append(read(t, y.one+";"+y.other).Rules, x.rule)...), 2, x.code)
		}
	}
	for _, n := range []int{257, 512, 65537} {
		is(t, rules(slices.Repeat(read(t, "a > x").Rules, n)...), 0, api.ErrRuleMany)
		is(t, rules(make([]api.Rule, n)...), 0, api.ErrRuleMany)
	}
	is(t, rules(slices.Repeat(read(t, "a > x").Rules, 256)...), 0, api.OK)
}

func TestWhatIsNoResult(t *testing.T) { // P19.1: ErrTurnResult
	// The cursor must stand behind all of them.
	for n := 1; n <= 8; n++ {
		for cursor := range n + 1 {
			code := api.ErrTurnResult
			if cursor == n {
				code = api.OK
			}
			is(t, rules(api.Rule{Key: row(a), Result: slices.Repeat(pieces(unit('x')), n), Cursor: cursor}), 0, code)
		}
	}
	is(t, rules(api.Rule{Key: row(a)}), 0, api.ErrTurnResult)
	is(t, rules(api.Rule{Key: slices.Repeat(row(abc), 8), Ante: row(a), Begin: true, End: true}), 0, api.ErrTurnResult)
	// A stray by a unit, by a copy, by a pair: the first one and the last one, alone and at a set's end, as any of the pieces.
	for _, u := range []int{firstRaw, 0x1100C3, lastRaw} {
		mixed, lone := of('p', 'q', u, u), of(u, u)
		for at := range 3 {
			for _, x := range []struct {
				key   []api.Set
				piece api.Piece
			}{
				{row(a), unit(u)}, {row(a, lone), again(1)}, {row(a, mixed), again(1)}, {row(a, of('b', 'b')), paired(1, lone)}, {row(a, of('b', 'd')), paired(1, mixed)}, {row(a, lone), paired(1, lone)}, {row(a, mixed), paired(1, mixed)},
			} {
				l := slices.Insert(pieces(unit('x'), unit('y')), at, x.piece)
				is(t, rules(api.Rule{Key: x.key, Result: l, Cursor: 3}), 0, api.ErrTurnResult)
			}
		}
		// What was a stray may become a rune.
		is(t, rules(api.Rule{Key: row(lone), Result: pieces(unit('x')), Cursor: 1}), 0, api.OK)
		is(t, rules(api.Rule{Key: row(lone), Result: pieces(paired(0, a)), Cursor: 1}), 0, api.OK)
		is(t, rules(api.Rule{Key: row(a, mixed), Result: pieces(paired(1, abc), again(0)), Cursor: 2}), 0, api.OK)
		is(t, rules(api.Rule{Key: row(of(firstRaw, lastRaw)), Result: pieces(paired(0, of(0x80, 0xFF))), Cursor: 1}), 0, api.OK)
	}
	fine(t, "a > \\x{10FFFF}", "a > \\x{FF}", "a > \\x{FFFD}", "[ab] > @1:[\\x{10FFFE}\\x{10FFFF}]", "\\x{10FFFF} > @1", "[:stray:] > @1:[\\x{80}-\\x{FF}]")
}

func TestHowManyPieces(t *testing.T) { // P19.1: ErrTurnMany
	for n := 1; n <= 16; n++ {
		code := api.OK
		if n > 8 {
			code = api.ErrTurnMany
		}
		is(t, rules(api.Rule{Key: row(a), Result: slices.Repeat(pieces(unit('x')), n), Cursor: n}), 0, code)
		is(t, rules(api.Rule{Key: row(a), Result: slices.Repeat(pieces(again(0)), n), Cursor: n}), 0, code)
		is(t, rules(api.Rule{Key: row(a), Result: slices.Repeat(pieces(paired(0, of('b', 'b'))), n), Cursor: n}), 0, code)
		is(t, rules(api.Rule{Key: slices.Repeat(row(a), 8), Result: slices.Repeat(pieces(again(7)), n), Cursor: n}), 0, code)
	}
}

func TestHowOftenAPlaceIsSpokenOf(t *testing.T) { // P19.1: ErrTurnTwice
	refused(t, api.ErrTurnTwice, "[ab] > x", "[ab] > xyz", "[ab] > @1@1", "[ab] > @1 x @1", "[ab] > @1@1@1", "[ab] > @1:[xy] @1:[xy]", "[ab] > @1:[xy] @1:[yz]", "[ab] > @1 @1:[xy]", "[ab] > @1:[xy] @1", "[ab] > @1 @1:[ab]", "[ab] > @1 x @1:[cd] @1")
	fine(t, "[ab] > @1", "[ab] > @1:[xy]", "[ab] > @1:[ab]", "[ab] > x@1", "[ab] > @1x", "[ab] > x @1:[pq] y", "[ac] > @1", "[a-z] > @1", "[^a] > @1", "[ab][ab] > @2@1")
	// A place of one unit may be spoken of or not.
	fine(t, "a > x", "a > @1", "a > @1@1", "a > @1:[b]", "a > @1:[b]@1", "a > @1@1@1:[b]@1:[c]", "[a] > x", "[aa] > x", "ab > @1@1", "ab > @2@2x")
	// Each place by itself.
	for n := 1; n <= 8; n++ {
		for at := range n {
			key := slices.Repeat(row(a), n)
			key[at] = abc
			for _, x := range []struct {
				l    []api.Piece
				code api.Errno
			}{
				{pieces(unit('x')), api.ErrTurnTwice}, {pieces(again(at)), api.OK}, {pieces(paired(at, of('x', 'z'))), api.OK}, {pieces(again(at), again(at)), api.ErrTurnTwice}, {pieces(paired(at, abc), again(at)), api.ErrTurnTwice}, {pieces(unit('x'), again(at)), api.OK}, {pieces(paired(at, abc), unit('x')), api.OK},
				{pieces(again((at + n - 1) % n)), map[bool]api.Errno{true: api.OK, false: api.ErrTurnTwice}[n == 1]}, {pieces(again(at), again((at+1)%n)), map[bool]api.Errno{true: api.ErrTurnTwice, false: api.OK}[n == 1]},
			} {
				is(t, rules(api.Rule{Key: key, Result: x.l, Cursor: len(x.l)}), 0, x.code)
			}
		}
		// All of them, but one.
		key := slices.Repeat(row(abc), n)
		var l []api.Piece
		for place := range n {
			l = append(l, again(n-1-place))
		}
		is(t, rules(api.Rule{Key: key, Result: l, Cursor: n}), 0, api.OK)
		for at := range n {
			other := slices.Clone(l)
			other[at] = unit('x')
			is(t, rules(api.Rule{Key: key, Result: other, Cursor: n}), 0, api.ErrTurnTwice)
			key[at] = a
			is(t, rules(api.Rule{Key: key, Result: slices.Delete(slices.Clone(l), n-1-at, n-at), Cursor: n - 1}), 0, map[bool]api.Errno{true: api.ErrTurnResult, false: api.OK}[n == 1])
			key[at] = abc
		}
	}
	// A set of two units at the ends of all that is, and sets of two ranges.
	for _, s := range []api.Set{of(0, 1), of(0, 0, 2, 2), of(0xD7FF, 0xD7FF, 0xE000, 0xE000), of(0, 0, maxRune, maxRune), of('a', 'a', lastRaw, lastRaw)} {
		is(t, rules(api.Rule{Key: row(s), Result: pieces(unit('x')), Cursor: 1}), 0, api.ErrTurnTwice)
		is(t, rules(api.Rule{Key: row(s), Result: pieces(paired(0, of('x', 'y'))), Cursor: 1}), 0, api.OK)
	}
}

func TestContextsMeetTheCore(t *testing.T) { // P19.1: ErrTurnContext
	// The core of these is e to h and p to s, by two keys and two images.
	const one, other = "[gh] > @1:[rs]", "[ef] > @1:[pq]"
	for _, x := range []struct {
		near string
		code api.Errno
	}{
		{"d", api.OK}, {"e", api.ErrTurnContext}, {"f", api.ErrTurnContext}, {"g", api.ErrTurnContext}, {"h", api.ErrTurnContext}, {"i", api.OK}, {"o", api.OK}, {"p", api.ErrTurnContext}, {"q", api.ErrTurnContext}, {"r", api.ErrTurnContext}, {"s", api.ErrTurnContext}, {"t", api.OK},
		{"[a-d]", api.OK}, {"[a-e]", api.ErrTurnContext}, {"[i-o]", api.OK}, {"[h-o]", api.ErrTurnContext}, {"[i-p]", api.ErrTurnContext}, {"[t-z]", api.OK}, {"[s-z]", api.ErrTurnContext}, {"[d i-o t]", api.OK}, {"[d i-o s]", api.ErrTurnContext}, {"[a-z]", api.ErrTurnContext}, {"[^e-hp-s]", api.OK}, {"[^e-gp-s]", api.ErrTurnContext}, {"[^e-hp-r]", api.ErrTurnContext}, {".", api.ErrTurnContext}, {"[^e-sx]", api.OK}, {"[:stray:]", api.OK}, {"[a f]", api.ErrTurnContext}, {"[a q z]", api.ErrTurnContext},
	} {
		set := read(t, x.near+" > ").Rules[0].Key[0]
		for at := range 8 {
			near := slices.Repeat(row(of('1', '9')), at+1)
			near[at/2] = set
			for host := range 2 {
				// Its own rule is ahead of the other one, or behind it.
				for _, text := range []string{one + ";" + other, other + ";" + one} {
					n := host
					if x.code == api.OK {
						n = 0
					}
					p := read(t, text)
					p.Rules[host].Ante = near
					is(t, p, n, x.code)
					p.Rules[host].Ante, p.Rules[host].Post = nil, near
					is(t, p, n, x.code)
					p.Rules[host].Ante = slices.Repeat(row(of('1', '9')), 8)
					is(t, p, n, x.code)
					p.Rules[host].Ante, p.Rules[host].Post = near, p.Rules[host].Ante
					is(t, p, n, x.code)
				}
			}
		}
	}
	// Each set of the core counts, whichever place it has in a key or an image, and whichever way it comes to be there.
	for _, u := range "abcdefghxy" {
		near := row(of(int(u), int(u)))
		is(t, rules(api.Rule{Ante: near, Key: row(of('1', '1')), Result: pieces(unit('2')), Cursor: 1}, read(t, "abcdefgh > xabcdefy").Rules[0]), 0, api.ErrTurnContext)
		is(t, rules(api.Rule{Post: near, Key: row(of('1', '1')), Result: pieces(unit('2')), Cursor: 1}, read(t, "[ax][by][cd] > @3@2:[e-f]@1:[gh]").Rules[0]), 0, api.ErrTurnContext)
	}
	// A beginning and an end that are wanted are no sets.
	fine(t, "^ { a > x", "a } $ > x", "^ { a } $ > @1", "^ 1 { a } 2 $ > @1")
	// Where ranges can't touch.
	fine(t, "\\x{D7FF} { \\x{E000} > a", "\\x{E000} { \\x{D7FF} > a", "\\x{10FFFF} { \\b{80} > a", "\\b{80} { \\x{10FFFF} > a", "\\b{FE} { \\b{FF} > a", "a } \\x{0} > \\x{1}", "\\b{C3} { é } \\b{A9} > a")
	refused(t, api.ErrTurnContext, "\\x{0} { a > \\x{0}", "\\b{FF} { [\\b{80}\\b{FF}] > @1:[ab]", "\\x{10FFFF} { a > \\x{10FFFF}", "a } [^b] > b", "[:stray:] { \\b{9C} > x", "a } \\x{D7FF} > \\x{D7FF}")
}

// every is n units of which each stands so far behind the one ahead.
func every(from, n, far int) api.Set {
	var s api.Set
	for i := range n {
		s = append(s, api.Range{Lo: from + far*i, Hi: from + far*i})
	}
	return s
}

func TestGreatContexts(t *testing.T) { // P19.1: of as many ranges as may be, beside a core of more
	for _, far := range []int{4, 9, 100} {
		key, image := every(0x10000, 512, far), every(0x10001, 512, far)
		r := api.Rule{Key: row(key), Result: pieces(paired(0, image)), Cursor: 1}
		for from := 0x10002; from < 0x10000+far; from++ {
			r.Ante, r.Post = row(every(from, 512, far)), row(a, every(from, 510, far))
			is(t, rules(r), 0, api.OK)
		}
		for _, at := range []int{0, 1, 2, 255, 256, 510, 511} {
			for _, by := range []int{0, 1} {
				near := every(0x10002, 512, far)
				near[at].Lo, near[at].Hi = near[at].Lo-2+by, near[at].Hi-2+by
				is(t, rules(api.Rule{Ante: row(near), Key: r.Key, Result: r.Result, Cursor: 1}), 0, api.ErrTurnContext)
				is(t, rules(api.Rule{Post: row(a, near), Key: r.Key, Result: r.Result, Cursor: 1}), 0, api.ErrTurnContext)
				// A wide range that has it, and a wide one that has many.
				near[at].Lo, near[at].Hi = 0x10000+far*at, 0x10003+far*at
				is(t, rules(api.Rule{Ante: row(near), Key: r.Key, Result: r.Result, Cursor: 1}), 0, api.ErrTurnContext)
			}
			near := of(0, 5, key[at].Lo-1, key[at].Lo, maxRune, maxRune)
			is(t, rules(api.Rule{Ante: row(near), Key: r.Key, Result: r.Result, Cursor: 1}), 0, api.ErrTurnContext)
		}
		is(t, rules(api.Rule{Ante: row(of(0, 0xD7FF, 0xE000, 0xFFFF), of(0x20000, maxRune)), Key: r.Key, Result: r.Result, Cursor: 1}), 0, api.OK)
		is(t, rules(api.Rule{Ante: row(of(0xE000, 0x10000)), Key: r.Key, Result: r.Result, Cursor: 1}), 0, api.ErrTurnContext)
	}
}

func TestImagesOfOneLength(t *testing.T) { // P19.1: ErrTurnTwice
	second := func(code api.Errno, texts ...string) {
		t.Helper()
		for _, text := range texts {
			n := 1
			if code == api.OK {
				n = 0
			}
			isText(t, text, n, code)
		}
	}
	second(api.ErrTurnTwice, "a > x ; b > x", "a > x ; ab > x", "a > x ; bc > x", "a > xy ; b > xy", "[ab] > @1 ; [bc] > @1", "[ab] > @1:[xy] ; c > x", "c > y ; [ab] > @1:[xy]", "[ab] > @1 ; c > b", "[ab] > @1:[cd] ; [cd] > @1")
	second(api.OK, "[ab] > @1:[xy] ; c > z", "[ab] > @1 ; c > d", "a > xy ; b > xz", "a > xy ; b > zy", "[ab][cd] > @1@2 ; [ab][ef] > @1@2", "[ab] > @1:[ac] ; d > b")
	for n := 1; n <= 8; n++ {
		key := slices.Repeat(row(abc), n)
		var l []api.Piece
		for place := range n {
			l = append(l, paired(place, of('p', 'q', 's', 's')))
		}
		r := api.Rule{Key: key, Result: l, Cursor: n}
		for _, x := range []struct {
			to   api.Set
			code api.Errno
		}{
			{of('p', 'r'), api.ErrTurnTwice}, {of('r', 't'), api.ErrTurnTwice}, {of('n', 'p'), api.ErrTurnTwice}, {of('q', 'r', 't', 't'), api.ErrTurnTwice}, {of('t', 'v'), api.OK}, {of('m', 'o'), api.OK}, {of('o', 'o', 'r', 'r', 't', 't'), api.OK}, {of('s', 'u'), api.ErrTurnTwice},
		} {
			// They meet at all places, or at all but one.
			for at := range n {
				other := slices.Clone(l)
				other[at] = paired(at, x.to)
				s := api.Rule{Key: slices.Repeat(row(of('d', 'f')), n), Result: other, Cursor: n}
				m := 1
				if x.code == api.OK {
					m = 0
				}
				is(t, rules(r, s), m, x.code)
				is(t, rules(s, r), m, x.code)
			}
		}
	}
}

func TestRulesThatDoTheSame(t *testing.T) { // P19.1: one way back, in other contexts
	fine(t, "a } 1 > x ; a > x", "a > x ; a > x", "a > x ; 1 { a > x ; a } 2 > x ; ^ { a > x ; a } $ > x", "[ab] > @1:[xy] ; 1 { [ab] > @1:[xy]", "[ab]c > @2@1 ; ^ { [ab]c > @2@1", "a > @1 ; a } 1 > @1", "a > x ; b > y ; 1 { a > x ; 2 { b > y")
	// The same units, by another form.
	for _, text := range []string{
		"a > a ; a > @1", "a > @1 ; a > @1:[a]", "a > a ; a > @1:[a]", "[ab] > @1 ; [ab] > @1:[ab]", "aa > @1x ; aa > @2x", "a > x ; a > @1:[x]", "aa > @1:[x] ; aa > @2:[x]", "[ab] > @1:[xy] ; [ab] > @1:[yz]", "[ab] > @1:[xz] ; [ab] > @1:[xy]", "1 { a > a ; a > @1", "[ab]c > @1 y ; [ab] c > @1 @2:[y]",
		// One of the two alone is the same.
		"a > x ; b > x", "[ab] > @1:[xy] ; [ac] > @1:[xy]", "aa > x ; a > x", "a > x ; aa > x", "[ab] > @1:[xy] ; [bc] > @1:[xy]", "[ab] > @1 ; [abc] > @1", "[ab]c > @1 ; [ab]d > @1",
	} {
		isText(t, text, 1, api.ErrTurnTwice)
	}
	// Cut into ranges otherwise no set is the same: it is none.
	is(t, rules(api.Rule{Key: row(of('a', 'b')), Result: pieces(again(0)), Cursor: 1}, api.Rule{Key: row(of('a', 'a', 'b', 'b')), Result: pieces(again(0)), Cursor: 1}), 1, api.ErrRuleSet)
}

func TestImagesThatBeginAlike(t *testing.T) { // P19.1: ErrTurnPrefix
	for _, x := range []struct {
		short, long string
		code        api.Errno
	}{
		{"a > x", "b > xy", api.ErrTurnPrefix}, {"a > x", "b > yx", api.OK}, {"a > x", "b > xx", api.ErrTurnPrefix}, {"a > xy", "b > xyz", api.ErrTurnPrefix}, {"a > xy", "b > xzy", api.OK}, {"a > xy", "b > yxy", api.OK}, {"a > x", "a > xy", api.ErrTurnPrefix}, {"[ab] > @1", "c > bx", api.ErrTurnPrefix}, {"[ab] > @1", "c > cx", api.OK}, {"[ab] > @1:[xy]", "[cd] > @1:[yz]x", api.ErrTurnPrefix}, {"[ab] > @1:[xy]", "[cd] > @1:[wz]x", api.OK}, {"a > x", "b > xxxxxxxx", api.ErrTurnPrefix}, {"a > xxxxxxx", "b > xxxxxxxx", api.ErrTurnPrefix}, {"a > xxxxxxy", "b > xxxxxxxx", api.OK}, {"1 { a > x", "a } 2 > xy", api.ErrTurnPrefix}, {"^ { a > x", "a } $ > x@1", api.ErrTurnPrefix}, {"a > @1", "b > @1a", api.OK}, {"[ab] > @1", "[bc] > @1 x", api.ErrTurnPrefix},
	} {
		n := 1
		if x.code == api.OK {
			n = 0
		}
		isText(t, x.short+";"+x.long, n, x.code)
		isText(t, x.long+";"+x.short, n, x.code)
	}
	// Keys may begin alike.
	fine(t, "a > x ; ab > y", "ab > x ; a > y", "a > x ; abc > y ; ab > z", "[ab] > @1:[xy] ; ac > z")
	// Each two lengths.
	for n := 1; n <= 8; n++ {
		for m := 1; m < n; m++ {
			for at := range n {
				long, short := slices.Repeat(pieces(unit('x')), n), slices.Repeat(pieces(unit('x')), m)
				long[at] = unit('y')
				number, code := 1, api.ErrTurnPrefix
				if at < m {
					number, code = 0, api.OK
				}
				r, s := api.Rule{Key: row(a), Result: long, Cursor: n}, api.Rule{Key: row(a), Result: short, Cursor: m}
				is(t, rules(r, s), number, code)
				is(t, rules(s, r), number, code)
			}
		}
	}
}

func TestSetsThatMeetInManyRanges(t *testing.T) { // P19.1: in more than a set may have
	var s, other api.Set
	for i := range 512 {
		s = append(s, api.Range{Lo: 0x10000 + 4*i, Hi: 0x10002 + 4*i})
		other = append(other, api.Range{Lo: 0x10002 + 4*i, Hi: 0x10004 + 4*i})
	}
	one := api.Rule{Key: row(s), Result: pieces(again(0)), Cursor: 1}
	is(t, rules(one, api.Rule{Key: row(other), Result: pieces(again(0)), Cursor: 1}), 1, api.ErrTurnTwice)
	is(t, rules(api.Rule{Key: row(a, other), Result: pieces(again(1)), Cursor: 1}, one), 1, api.ErrTurnTwice)
	is(t, rules(one, api.Rule{Key: row(other), Result: pieces(again(0), unit('x')), Cursor: 2}), 1, api.ErrTurnPrefix)
	is(t, rules(api.Rule{Key: row(other), Result: pieces(again(0), unit('x')), Cursor: 2}, one), 1, api.ErrTurnPrefix)
	is(t, rules(one, api.Rule{Ante: row(other), Key: row(a), Result: pieces(unit('x')), Cursor: 1}), 1, api.ErrTurnContext)
	is(t, rules(api.Rule{Post: row(other), Key: row(a), Result: pieces(unit('x')), Cursor: 1}, one), 0, api.ErrTurnContext)
	// What is gone, less what may not stay.
	many(t, rules(api.Rule{Key: row(a, other), Result: pieces(again(1), again(0)), Cursor: 2}, to(s, of(0x20000, 0x20000+size(s)-1))), 3+512+1)
	many(t, rules(api.Rule{Key: row(a, other[:500]), Result: pieces(again(1), again(0)), Cursor: 2}, to(s, of(0x20000, 0x20000+size(s)-1))), 3+500+1)
}
