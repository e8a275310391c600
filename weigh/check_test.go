package weigh_test

import (
	"fmt"
	"slices"
	"strings"
	"testing"

	"respell/api"
	"respell/names"
	"respell/parse"
	"respell/weigh"
)

// How passes are written in these tests: as a rules' text has them, or by hand where that can't.

// read is the pass of a rules' text; the last ; may be left out.
func read(t *testing.T, text string) api.Pass {
	t.Helper()
	if strings.TrimSpace(text) != "" && !strings.HasSuffix(text, ";") {
		text += " ;"
	}
	lines, fault := parse.Parse(text)
	if fault.Code != api.OK {
		t.Fatalf("%s: %v", text, fault)
	}
	passes, line, e := names.Passes(lines)
	if e != api.OK || len(passes) != 1 {
		t.Fatalf("%s: %d passes, %d, %d", text, len(passes), line, e)
	}
	return passes[0]
}

func of(n ...int) api.Set {
	var s api.Set
	for i := 0; i+1 < len(n); i += 2 {
		s = append(s, api.Range{Lo: n[i], Hi: n[i+1]})
	}
	return s
}

func row(l ...api.Set) []api.Set { return l }

func pieces(l ...api.Piece) []api.Piece { return l }

func unit(u int) api.Piece               { return api.Piece{Kind: api.PUnit, Unit: u} }
func again(k int) api.Piece              { return api.Piece{Kind: api.PCopy, Key: k} }
func paired(k int, to api.Set) api.Piece { return api.Piece{Kind: api.PPair, Key: k, To: to} }

const (
	maxRune  = 0x10FFFF
	firstRaw = 0x110080
	lastRaw  = 0x1100FF
)

var (
	a   = of('a', 'a')
	abc = of('a', 'c')
	xyz = of('x', 'z')
	all = of(0, 0xD7FF, 0xE000, maxRune, firstRaw, lastRaw)
)

func checks(t *testing.T, p api.Pass, n int, code api.Errno) {
	t.Helper()
	if got, e := weigh.Check(p); got != n || e != code {
		t.Errorf("%.300s: %d, %d; want %d, %d", fmt.Sprint(p), got, e, n, code)
	}
}

func checksText(t *testing.T, text string, n int, code api.Errno) {
	t.Helper()
	if got, e := weigh.Check(read(t, text)); got != n || e != code {
		t.Errorf("%s: %d, %d; want %d, %d", text, got, e, n, code)
	}
}

func TestCheckExamples(t *testing.T) { // P8.1
	for _, text := range []string{"", "a > b", "ab > b | c ; c > d", "a > | bb ; b > | cc ; c > d", "abc > | @3@2", "x > | @1:[a] ; a > | bb"} {
		checksText(t, text, 0, api.OK)
	}
	checks(t, api.Pass{}, 0, api.OK)
	checks(t, api.Pass{Rules: []api.Rule{}}, 0, api.OK)
	checksText(t, "a > | b ; b > | a", 1, api.ErrWeighMost)
	checksText(t, "a > | b", 0, api.OK)
	checksText(t, "ab > | ba", 0, api.ErrWeighMost)
	checksText(t, "[ab]c > | @1", 0, api.ErrWeighBack)
	checksText(t, "abc > | @3@3", 0, api.ErrWeighBack)
	checksText(t, "a > | bbbbbbbb ; b > | cccccccc", 1, api.ErrWeighMost)
	checksText(t, "a > | bbbbbbbb", 0, api.OK)
}

// refused are rules that rule.Check refuses, each for another reason.
var refused = []struct {
	rule api.Rule
	code api.Errno
}{
	{api.Rule{}, api.ErrRuleKey},
	{api.Rule{Key: slices.Repeat(row(a), 9)}, api.ErrRuleKey},
	{api.Rule{Key: row(a), Ante: slices.Repeat(row(a), 9)}, api.ErrRuleMany},
	{api.Rule{Key: row(a), Post: slices.Repeat(row(a), 9)}, api.ErrRuleMany},
	{api.Rule{Key: row(a), Result: slices.Repeat(pieces(unit('a')), 17)}, api.ErrRuleMany},
	{api.Rule{Key: row(of('b', 'a'))}, api.ErrRuleSet},
	{api.Rule{Key: row(nil)}, api.ErrRuleSet},
	{api.Rule{Key: row(a), Ante: row(of(0xD800, 0xD800))}, api.ErrRuleSet},
	{api.Rule{Key: row(a), Result: pieces(unit(0xD800))}, api.ErrRulePiece},
	{api.Rule{Key: row(a), Result: pieces(api.Piece{})}, api.ErrRulePiece},
	{api.Rule{Key: row(a), Result: pieces(again(1))}, api.ErrRuleCopy},
	{api.Rule{Key: row(a), Result: pieces(again(-1))}, api.ErrRuleCopy},
	{api.Rule{Key: row(a), Result: pieces(paired(0, abc))}, api.ErrRulePair},
	{api.Rule{Key: row(a), Result: pieces(paired(0, nil))}, api.ErrRulePair},
	{api.Rule{Key: row(a), Cursor: 1}, api.ErrRuleCursor},
	{api.Rule{Key: row(a), Cursor: -1}, api.ErrRuleCursor},
}

func TestWhatRuleRefuses(t *testing.T) { // P8.1
	good := read(t, "a > b ; ab > b | c ; c > d").Rules
	for _, x := range refused {
		for n := range len(good) + 1 {
			p := api.Pass{Rules: slices.Insert(slices.Clone(good), n, x.rule)}
			checks(t, p, n, x.code)
			for _, y := range refused {
				checks(t, api.Pass{Rules: append(slices.Clone(p.Rules), y.rule)}, n, x.code)
			}
		}
	}
	for _, n := range []int{1, 255, 256} {
		checks(t, api.Pass{Rules: slices.Repeat(good[1:2], n)}, 0, api.OK)
		l := slices.Repeat(good[1:2], n)
		l[n-1] = api.Rule{}
		checks(t, api.Pass{Rules: l}, n-1, api.ErrRuleKey)
	}
	for _, n := range []int{257, 512, 65537} {
		checks(t, api.Pass{Rules: slices.Repeat(good[1:2], n)}, 0, api.ErrRuleMany)
		checks(t, api.Pass{Rules: make([]api.Rule, n)}, 0, api.ErrRuleMany)
	}
}

func TestCopiesThatMayNotBePutBack(t *testing.T) { // P8.1
	for _, text := range []string{
		"a > | @1", "ab > | @1", "ab > | @2@1", "ab > @1 | @1", "ab > x @2 | y @1 z", "[ab]c > | @1", "abcdefgh > | @1", "a > bcdefghijklmnop | @1",
		"ab > | @2@2", "abc > | @2@3@2", "abc > | @3 x @3", "abc > @1 | @2@2", "ab > x | @2 y @2 z", "abcdefgh > | @2@3@4@5@6@7@8@8", "abcdefgh > | @8@8", "x { a } y > | @1", "ab > | @2@2@2", "a > | @1@1",
		"ab > | @2:[x] @2 @2", "a > | @1:[x] @1",
	} {
		checksText(t, text, 0, api.ErrWeighBack)
	}
	for _, text := range []string{
		"a > @1", "a > @1 |", "a > @1 | b", "ab > @1 | @2", "ab > @1@2@1@2 |", "abc > @2@2 | @2 @3", "abc > @2 | @2", "abc > @3 | @2", "ab > @2@2@2 | @2", "abc > | @2@3", "abc > | @3@2", "abcdefgh > | @2@3@4@5@6@7@8", "abcdefgh > @1@1 | @8@7@6@5@4@3@2",
		// A pair is no copy.
		"a > | @1:[x]", "[ab]c > | @1:[xy]", "abc > | @2:[x] @2:[y]", "abc > | @3:[x] @3:[x]", "abc > | @3 @3:[x]", "abc > | @3:[x] @3", "abc > | @1:[x] @2 @3",
	} {
		checksText(t, text, 0, api.OK)
	}
	// Which one.
	checksText(t, "a > b ; ab > | @1", 1, api.ErrWeighBack)
	checksText(t, "a > b ; ab > | @2 ; ab > | @2@2 ; a > | @1", 2, api.ErrWeighBack)
	checksText(t, "a > | @1 ; ab > | @2@2", 0, api.ErrWeighBack)
	// All pairs of places.
	key := slices.Repeat(row(a), 8)
	for i := range 8 {
		for k := range 8 {
			want := api.OK
			if i == 0 || k == 0 || i == k {
				want = api.ErrWeighBack
			}
			checks(t, api.Pass{Rules: []api.Rule{{Key: key, Result: pieces(unit('x'), again(i), unit('y'), again(k))}}}, 0, want)
			want = api.OK
			if k == 0 {
				want = api.ErrWeighBack
			}
			checks(t, api.Pass{Rules: []api.Rule{{Key: key, Result: pieces(unit('x'), again(i), unit('y'), again(k)), Cursor: 2}}}, 0, want)
			checks(t, api.Pass{Rules: []api.Rule{{Key: key, Result: pieces(unit('x'), again(i), unit('y'), again(k)), Cursor: 4}}}, 0, api.OK)
		}
	}
}

func TestTooHeavy(t *testing.T) { // P8.1
	for _, x := range []struct {
		text string
		n    int
		code api.Errno
	}{
		// A rule by itself.
		{"a > | a", 0, api.ErrWeighMost}, {"a > | ba", 0, api.ErrWeighMost}, {"ab > | a", 0, api.OK}, {"ab > | aa", 0, api.ErrWeighMost}, {"ab > | ab", 0, api.ErrWeighMost}, {"abb > | ab", 0, api.OK}, {"abb > | aa", 0, api.OK}, {"abb > | aaa", 0, api.ErrWeighMost}, {"abbb > | abb", 0, api.OK}, {"abbb > | bbb", 0, api.OK}, {"abbb > | abbb", 0, api.ErrWeighMost},
		{"[ab] > | b", 0, api.ErrWeighMost}, {"[ab] > | c", 0, api.OK}, {". > | x", 0, api.ErrWeighMost}, {"[ab] > | @1:[bc]", 0, api.ErrWeighMost}, {"[ab] > | @1:[cd]", 0, api.OK}, {"[ab] > @1:[bc]", 0, api.OK}, {"c[ab] > | @2:[cd]", 0, api.OK}, {"c[ab] > | @2 @2:[cd]", 0, api.ErrWeighMost}, {"\\b{80} > | \\b{80}", 0, api.ErrWeighMost}, {"\\b{80} > | \\x{80}", 0, api.OK},
		{"a > a | ", 0, api.OK}, {"a > aa | b", 0, api.OK}, {"a > | bbbbbbbbbbbbbbbb", 0, api.OK},
		// Rings.
		{"a > | b ; b > | a", 1, api.ErrWeighMost}, {"b > | a ; a > | b", 1, api.ErrWeighMost}, {"a > | b ; x > y ; b > | a", 2, api.ErrWeighMost}, {"a > | b ; bc > | a", 1, api.ErrWeighMost}, {"a > | b ; bcc > | a", 0, api.OK}, {"a > | b ; bcc > | a @2", 1, api.ErrWeighMost}, {"ax > | b ; bx > | a", 0, api.OK}, {"ax > | b ; b > | a", 1, api.ErrWeighMost},
		{"a > | b ; b > | c ; c > | a", 2, api.ErrWeighMost}, {"c > | a ; a > | b ; b > | c", 2, api.ErrWeighMost}, {"a > | b ; b > | c ; cxxx > | a", 0, api.OK}, {"a > | b ; b > | c ; cxx > | a", 2, api.ErrWeighMost}, {"a > | b ; b > | c ; a > | c", 0, api.OK},
		{"a > | b ; b > | c ; c > | b ; c > | a", 2, api.ErrWeighMost}, {"a > | @1:[b] ; b > | @1:[a]", 1, api.ErrWeighMost}, {"a > | @1:[b] ; b > @1:[a]", 0, api.OK}, {"[ab] > | @1:[cd] ; d > | x ; x > | b", 2, api.ErrWeighMost},
		// 64 and 65.
		{"a > | bbbbbbb ; b > | cccccccc", 0, api.OK}, {"a > | bbbbbbbc ; b > | cccccccc", 1, api.ErrWeighMost}, {"b > | cccccccc ; a > | bbbbbbbc", 1, api.ErrWeighMost}, {"ax > | bbbbbbbc ; b > | cccccccc", 0, api.OK}, {"ax > | bbbbbbbc @2 ; b > | cccccccc", 1, api.ErrWeighMost}, {"ax > @2 | bbbbbbbc ; b > | cccccccc", 0, api.OK},
		{"b > | cccccccc ; a > | bbbbbbb ; x > | a", 2, api.ErrWeighMost}, {"b > | cccccccc ; a > | bbbbbbb ; xy > | a", 0, api.OK}, {"xy > | @1:[a] ; b > | cccccccc ; a > | bbbbbbb", 0, api.OK}, {"x > | @1:[a] ; b > | cccccccc ; a > | bbbbbbb", 2, api.ErrWeighMost},
	} {
		checksText(t, x.text, x.n, x.code)
	}
}

// ladder is rules of which each puts back the unit that the next one begins with: the first one's weighs most.
func ladder(n int) []api.Rule {
	var l []api.Rule
	for i := range n {
		l = append(l, api.Rule{Key: row(of(0x1000+i, 0x1000+i)), Result: pieces(unit(0x1001 + i))})
	}
	return l
}

func TestTheRuleThatMakesItTooHeavy(t *testing.T) { // P8.1
	up := ladder(63)
	checks(t, api.Pass{Rules: up}, 0, api.OK)
	checks(t, api.Pass{Rules: ladder(64)}, 63, api.ErrWeighMost)
	checks(t, api.Pass{Rules: ladder(256)}, 63, api.ErrWeighMost)
	down := slices.Clone(up)
	slices.Reverse(down)
	checks(t, api.Pass{Rules: down}, 0, api.OK)
	down = ladder(200)
	slices.Reverse(down)
	checks(t, api.Pass{Rules: down}, 63, api.ErrWeighMost)
	// Any rule of it that is put behind the others is the one that makes it too heavy.
	for n := range 64 {
		l := ladder(64)
		last := l[n]
		l = append(slices.Delete(l, n, n+1), last)
		checks(t, api.Pass{Rules: l[:63]}, 0, api.OK)
		checks(t, api.Pass{Rules: l}, 63, api.ErrWeighMost)
	}
	// A rule far behind that lifts what an early one puts back.
	idle := slices.Repeat(read(t, "x > y").Rules, 254)
	early := read(t, "a > | bbbbbbbb").Rules
	for late, code := range map[string]api.Errno{"b > | cccccccc": api.ErrWeighMost, "b > | a": api.ErrWeighMost, "b > | ccccccc": api.ErrWeighMost, "b > | cccccc": api.OK, "bx > | ccccccc": api.OK} {
		for _, n := range []int{1, 2, 100, 255} {
			l := slices.Concat(early, idle[:n-1], read(t, late).Rules, idle[n-1:])
			if code == api.OK {
				checks(t, api.Pass{Rules: l}, 0, api.OK)
			} else {
				checks(t, api.Pass{Rules: l}, n, code)
				checks(t, api.Pass{Rules: l[:n]}, 0, api.OK)
				checks(t, api.Pass{Rules: l[1:]}, 0, api.OK)
			}
		}
	}
}

func TestOfSeveralErrorsTheFirst(t *testing.T) { // P8.1, R2
	good, heavy, copied := read(t, "x > y").Rules[0], read(t, "a > | a").Rules[0], read(t, "a > | @1").Rules[0]
	both := read(t, "aa > | @1 a a").Rules[0]
	checks(t, api.Pass{Rules: []api.Rule{both}}, 0, api.ErrWeighBack)
	checks(t, api.Pass{Rules: []api.Rule{heavy, copied}}, 1, api.ErrWeighBack)
	checks(t, api.Pass{Rules: []api.Rule{heavy, good, copied, copied}}, 2, api.ErrWeighBack)
	checks(t, api.Pass{Rules: []api.Rule{copied, heavy}}, 0, api.ErrWeighBack)
	checks(t, api.Pass{Rules: []api.Rule{good, heavy, heavy}}, 1, api.ErrWeighMost)
	checks(t, api.Pass{Rules: []api.Rule{heavy, good}}, 0, api.ErrWeighMost)
	for _, x := range refused {
		for _, l := range [][]api.Rule{{heavy}, {copied}, {both}, {heavy, copied}, {copied, heavy, good}} {
			checks(t, api.Pass{Rules: append(slices.Clone(l), x.rule)}, len(l), x.code)
			checks(t, api.Pass{Rules: slices.Insert(slices.Clone(l), 0, x.rule)}, 0, x.code)
		}
	}
	for _, r := range []api.Rule{heavy, copied, both} {
		checks(t, api.Pass{Rules: slices.Repeat([]api.Rule{r}, 257)}, 0, api.ErrRuleMany)
	}
	checks(t, api.Pass{Rules: append(slices.Repeat([]api.Rule{heavy}, 255), copied)}, 255, api.ErrWeighBack)
}
