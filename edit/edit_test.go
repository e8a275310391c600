package edit_test

import (
	"fmt"
	"math"
	"slices"
	"strings"
	"testing"

	"respell/api"
	"respell/edit"
	"respell/names"
	"respell/parse"
	"respell/pass"
	"respell/weigh"
)

// How passes and calls are written in these tests: passes as a rules' text has them, or by hand where that can't.

// read is the pass of a rules' text; the last ; may be left out.
func read(t *testing.T, text string) api.Pass {
	t.Helper()
	if strings.TrimSpace(text) == "" {
		return api.Pass{}
	}
	lines, fault := parse.Parse(text + " ;")
	if fault.Code != api.OK {
		t.Fatalf("%s: %v", text, fault)
	}
	passes, line, e := names.Passes(lines)
	if e != api.OK || len(passes) != 1 {
		t.Fatalf("%s: %d passes, %d, %d", text, len(passes), line, e)
	}
	return passes[0]
}

func of(n ...int) api.Set {
	var s api.Set
	for i := 0; i+1 < len(n); i += 2 {
		s = append(s, api.Range{Lo: n[i], Hi: n[i+1]})
	}
	return s
}

func row(l ...api.Set) []api.Set { return l }

func rules(l ...api.Rule) api.Pass { return api.Pass{Rules: l} }

func pieces(l ...api.Piece) []api.Piece { return l }

func unit(u int) api.Piece               { return api.Piece{Kind: api.PUnit, Unit: u} }
func again(k int) api.Piece              { return api.Piece{Kind: api.PCopy, Key: k} }
func paired(k int, to api.Set) api.Piece { return api.Piece{Kind: api.PPair, Key: k, To: to} }

const (
	maxText  = 16384
	maxRune  = 0x10FFFF
	firstRaw = 0x110080
	lastRaw  = 0x1100FF
)

var (
	a   = of('a', 'a')
	abc = of('a', 'c')
	all = of(0, 0xD7FF, 0xE000, maxRune, firstRaw, lastRaw)
)

// brief is a pass as it is told where a test fails.
func brief(p api.Pass) string { return fmt.Sprintf("%.300s", fmt.Sprint(p)) }

// begin is a text of a pass that may be.
func begin(t *testing.T, p api.Pass, s string) *edit.Text {
	t.Helper()
	x, e := edit.New(p, s)
	if e != api.OK || x == nil {
		t.Fatalf("%s over %.50q: %d", brief(p), s, e)
	}
	return x
}

func refuses(t *testing.T, p api.Pass, s string, want api.Errno) {
	t.Helper()
	if x, e := edit.New(p, s); x != nil || e != want {
		t.Fatalf("%s over %.50q: %v, %d; want %d", brief(p), s, x, e, want)
	}
}

// is holds all that a text tells against what it must be.
func is(t *testing.T, x *edit.Text, source, result string, redone int) {
	t.Helper()
	if x.Source() != source || x.Result() != result || x.Redone() != redone {
		t.Fatalf("%.80q: %.80q, %d; want %.80q: %.80q, %d", x.Source(), x.Result(), x.Redone(), source, result, redone)
	}
}

// change is an Edit, its answer, and all that is asked behind it.
type change struct {
	from, to int
	bytes    string
	want     api.Block
	source   string
	result   string
	redone   int
}

// goes begins with a text of a rules' text and does changes, one behind the other.
func goes(t *testing.T, text, source string, l ...change) *edit.Text {
	t.Helper()
	x := begin(t, read(t, text), source)
	for _, c := range l {
		if got, e := x.Edit(c.from, c.to, c.bytes); got != c.want || e != api.OK {
			t.Fatalf("%s, %q: Edit(%d, %d, %q): %v, %d; want %v", text, source, c.from, c.to, c.bytes, got, e, c.want)
		}
		is(t, x, c.source, c.result, c.redone)
	}
	return x
}

// denies holds that an Edit is refused, and that nothing changes by it.
func denies(t *testing.T, x *edit.Text, from, to int, b string, want api.Errno) {
	t.Helper()
	source, result, redone := x.Source(), x.Result(), x.Redone()
	if got, e := x.Edit(from, to, b); got != (api.Block{}) || e != want {
		t.Fatalf("Edit(%d, %d, %.50q): %v, %d; want %d", from, to, b, got, e, want)
	}
	is(t, x, source, result, redone)
}

func block(s0, s1, r0, r1 int) api.Block { return api.Block{S0: s0, S1: s1, R0: r0, R1: r1} }

func TestExamples(t *testing.T) {
	is(t, begin(t, read(t, "a > b"), "xaya"), "xaya", "xbyb", 0)
	x := goes(t, "a > b", "xaya",
		change{1, 2, "aa", block(2, 2, 2, 3), "xaaya", "xbbyb", 1},
		change{0, 0, "", block(5, 5, 5, 5), "xaaya", "xbbyb", 0})
	denies(t, x, 5, 6, "", api.ErrEditPlace)
	denies(t, x, 2, 1, "", api.ErrEditPlace)
	denies(t, x, -1, 0, "", api.ErrEditPlace)
	goes(t, "ab > x", "ab", change{1, 1, "a", block(0, 0, 0, 1), "aab", "ax", 1})
}

func TestNew(t *testing.T) { // P16.1, P16.3, P16.4
	for _, x := range []struct{ text, source, result string }{
		{"", "", ""},
		{"", "a\xE2é\x80", "a\xE2é\x80"},
		{"a > ", "", ""},
		{"a > ", "aaa", ""},
		{"a > x ; ab > y", "abaab", "yxy"},
		{"ab > b | c ; c > d", "ab", "bd"},
		{"x { a > x ; a > y", "aaxa", "yyxx"},
		{"a > ", "\xE2a\x82\xAC", "€"},
		{"^ { a > A ; a } $ > z", "aaa", "Aaz"},
		{"[a-c] > @1:[x-z]", "abcd", "xyzd"},
		{"\\b{80} > E", "\x80€", "E€"},
		{"a > \\b{C3} ; b > \\b{A9}", "ab", "é"},
		{"a > | bb ; b > | cc ; c > d", "ab", "dddddd"},
		{". > ", "aé€\U00010000\x80\uFFFD", ""},
		{"\uFFFD > x", "\uFFFD\xFF\xEF\xBF", "x\xFF\xEF\xBF"},
	} {
		is(t, begin(t, read(t, x.text), x.source), x.source, x.result, 0)
	}
}

// refused are passes that may not be, each with its error.
func refused(t *testing.T) map[string]struct {
	p    api.Pass
	want api.Errno
} {
	nine := slices.Repeat(row(a), 9)
	circle := read(t, "a > | a").Rules[0]
	twice := api.Rule{Key: row(a, abc), Result: pieces(again(1), again(1))}
	return map[string]struct {
		p    api.Pass
		want api.Errno
	}{
		"257 rules":                 {rules(slices.Repeat([]api.Rule{{Key: row(a)}}, 257)...), api.ErrRuleMany},
		"257 that may not be":       {rules(slices.Repeat([]api.Rule{{}}, 257)...), api.ErrRuleMany},
		"no key":                    {rules(api.Rule{}), api.ErrRuleKey},
		"a long key":                {rules(api.Rule{Key: nine}), api.ErrRuleKey},
		"a long ante":               {rules(api.Rule{Key: row(a)}, api.Rule{Key: row(a), Ante: nine}), api.ErrRuleMany},
		"a long post":               {rules(api.Rule{Key: row(a), Post: nine}), api.ErrRuleMany},
		"a long result":             {rules(api.Rule{Key: row(a), Result: slices.Repeat(pieces(unit('b')), 17)}), api.ErrRuleMany},
		"an empty set":              {rules(api.Rule{Key: row(a, nil)}), api.ErrRuleSet},
		"no set":                    {rules(api.Rule{Key: row(of('b', 'a'))}), api.ErrRuleSet},
		"no piece":                  {rules(api.Rule{Key: row(a), Result: pieces(api.Piece{})}), api.ErrRulePiece},
		"a copy of nothing":         {rules(api.Rule{Key: row(a), Result: pieces(again(1))}), api.ErrRuleCopy},
		"no pair":                   {rules(api.Rule{Key: row(abc), Result: pieces(paired(0, a))}), api.ErrRulePair},
		"a cursor behind":           {rules(api.Rule{Key: row(a), Cursor: 1}), api.ErrRuleCursor},
		"a cursor ahead":            {rules(api.Rule{Key: row(a), Cursor: -1}), api.ErrRuleCursor},
		"back to itself":            {rules(circle), api.ErrWeighMost},
		"in a circle":               {read(t, "a > | b ; b > | a"), api.ErrWeighMost},
		"past one another":          {read(t, "ab > | ba"), api.ErrWeighMost},
		"the first place":           {read(t, "[ab]c > | @1"), api.ErrWeighBack},
		"a place twice":             {rules(twice), api.ErrWeighBack},
		"a copy ahead of weights":   {rules(circle, twice), api.ErrWeighBack},
		"rules ahead of weights":    {rules(circle, api.Rule{}), api.ErrRuleKey},
		"rules ahead of copies":     {rules(twice, api.Rule{Key: row(a), Cursor: 9}), api.ErrRuleCursor},
		"the first rule of several": {rules(api.Rule{Key: row(a), Cursor: 9}, api.Rule{}), api.ErrRuleCursor},
	}
}

func TestRefusedPasses(t *testing.T) { // P16.1, R8
	for name, x := range refused(t) {
		if _, e := weigh.Check(x.p); e != x.want {
			t.Fatalf("%s: %d, not %d", name, e, x.want)
		}
		// Whatever the text; ErrLong stands behind.
		for _, s := range []string{"", "a", "ab\xE2", strings.Repeat("a", maxText), strings.Repeat("a", maxText+1), strings.Repeat("é", maxText)} {
			refuses(t, x.p, s, x.want)
		}
	}
}

func TestLongTextsAreRefused(t *testing.T) { // P16.1
	for _, text := range []string{"", "a > x", "[^] > ", "a > | bb ; b > c"} {
		p := read(t, text)
		for _, s := range []string{strings.Repeat("a", maxText+1), strings.Repeat("é", maxText/2) + "a", strings.Repeat("\xFF", 5*maxText)} {
			refuses(t, p, s, api.ErrLong)
		}
		for _, s := range []string{strings.Repeat("a", maxText), strings.Repeat("é", maxText/2), strings.Repeat("\xFF", maxText)} {
			want, e := pass.Run(p, s)
			if e != api.OK {
				t.Fatal(e)
			}
			is(t, begin(t, p, s), s, want, 0)
		}
	}
}

func TestPlaces(t *testing.T) { // P16.2
	x := begin(t, read(t, "a > b"), "xaéya")
	numbers := []int{math.MinInt, math.MinInt + 1, -6, -1, 0, 1, 3, 5, 6, 7, 100, math.MaxInt - 1, math.MaxInt}
	fine := 0
	for _, from := range numbers {
		for _, to := range numbers {
			if 0 <= from && from <= to && to <= 6 {
				fine++
				if _, e := x.Clone().Edit(from, to, "q"); e != api.OK {
					t.Errorf("Edit(%d, %d): %d", from, to, e)
				}
				continue
			}
			for _, b := range []string{"", "a", strings.Repeat("a", maxText+9)} {
				denies(t, x, from, to, b, api.ErrEditPlace)
			}
		}
	}
	if fine != 15 {
		t.Errorf("%d places may be", fine)
	}
	is(t, x, "xaéya", "xbéyb", 0)
	// No text has the places 0 alone.
	x = begin(t, api.Pass{}, "")
	denies(t, x, 0, 1, "", api.ErrEditPlace)
	denies(t, x, 1, 1, "", api.ErrEditPlace)
	denies(t, x, -1, -1, "", api.ErrEditPlace)
	if got, e := x.Edit(0, 0, ""); got != (api.Block{}) || e != api.OK {
		t.Error(got, e)
	}
}

func TestTooLong(t *testing.T) { // P16.2
	full := strings.Repeat("a", maxText)
	x := begin(t, read(t, "a > b"), full)
	for _, at := range []int{0, 1, maxText / 2, maxText} {
		denies(t, x, at, at, "a", api.ErrLong)
		denies(t, x, at, at, full, api.ErrLong)
		denies(t, x, at, min(at+1, maxText), "aa", api.ErrLong)
	}
	denies(t, x, 0, maxText, full+"a", api.ErrLong)
	denies(t, x, 0, maxText, strings.Repeat("é", maxText), api.ErrLong)
	// A place that is none stands ahead.
	denies(t, x, 0, maxText+1, full, api.ErrEditPlace)
	denies(t, x, -1, 0, full, api.ErrEditPlace)
	denies(t, x, 2, 1, full, api.ErrEditPlace)
	// As long as may be, with as many bytes for others, or fewer.
	for _, c := range []struct {
		from, to int
		b        string
	}{{0, 1, "c"}, {maxText - 1, maxText, "é"[:1]}, {5, 7, "é"}, {0, 0, ""}, {9, 20, "c"}} {
		if _, e := x.Edit(c.from, c.to, c.b); e != api.OK {
			t.Errorf("Edit(%d, %d, %q): %d", c.from, c.to, c.b, e)
		}
	}
	if len(x.Source()) != maxText-10 {
		t.Fatalf("%d bytes", len(x.Source()))
	}
	denies(t, x, 3, 3, full[:11], api.ErrLong)
	if _, e := x.Edit(3, 3, full[:10]); e != api.OK || len(x.Source()) != maxText {
		t.Errorf("%d, %d bytes", e, len(x.Source()))
	}
	if want, _ := pass.Run(read(t, "a > b"), x.Source()); x.Result() != want {
		t.Error("the result is another one")
	}
	// The result may be as long as it likes.
	x = begin(t, read(t, "a > bbbb"), full[1:])
	if b, e := x.Edit(0, 0, "a"); b != block(4*maxText-4, 4*maxText-4, 4*maxText-4, 4*maxText) || e != api.OK || len(x.Result()) != 4*maxText {
		t.Error(b, e, len(x.Result()))
	}
}

// Bytes are put in, taken out, and put in the place of others: at the beginning, within, at the end.
func TestBytesInTheirPlaces(t *testing.T) { // P16.2, P16.3
	goes(t, "", "abc",
		change{0, 0, "xy", block(0, 0, 0, 2), "xyabc", "xyabc", 2},
		change{3, 3, "z", block(3, 3, 3, 4), "xyazbc", "xyazbc", 1},
		change{6, 6, "!?", block(6, 6, 6, 8), "xyazbc!?", "xyazbc!?", 2},
		change{0, 1, "", block(0, 1, 0, 0), "yazbc!?", "yazbc!?", 0},
		change{2, 4, "", block(2, 4, 2, 2), "yac!?", "yac!?", 0},
		change{4, 5, "", block(4, 5, 4, 4), "yac!", "yac!", 0},
		change{0, 1, "q", block(0, 1, 0, 1), "qac!", "qac!", 1},
		change{1, 3, "r", block(1, 3, 1, 2), "qr!", "qr!", 1},
		change{1, 2, "stu", block(1, 2, 1, 4), "qstu!", "qstu!", 3},
		change{4, 5, "vw", block(4, 5, 4, 6), "qstuvw", "qstuvw", 2},
		change{0, 6, "", block(0, 6, 0, 0), "", "", 0},
		change{0, 0, "a", block(0, 0, 0, 1), "a", "a", 1},
		change{0, 1, "b", block(0, 1, 0, 1), "b", "b", 1})
	goes(t, "a > bb", "aca",
		change{0, 1, "", block(0, 2, 0, 0), "ca", "cbb", 0},
		change{2, 2, "a", block(3, 3, 3, 5), "caa", "cbbbb", 1},
		change{1, 2, "d", block(1, 3, 1, 2), "cda", "cdbb", 1},
		change{1, 3, "ad", block(1, 4, 1, 4), "cad", "cbbd", 2})
}

// Nothing for nothing, and the same bytes where they stand.
func TestTheSameBytes(t *testing.T) { // P16.2, P16.8
	for _, text := range []string{"", "a > b", "ab > x ; a > y", "^ { a > x", "a } $ > x", ". > ", "a > | bb ; b > c"} {
		const source = "aab\xE2é\x82ba"
		p := read(t, text)
		want, _ := pass.Run(p, source)
		x := begin(t, p, source)
		same := block(len(want), len(want), len(want), len(want))
		for from := range len(source) + 1 {
			for to := from; to <= len(source); to++ {
				if got, e := x.Edit(from, to, source[from:to]); got != same || e != api.OK {
					t.Errorf("%s: Edit(%d, %d): %v, %d", text, from, to, got, e)
				}
				is(t, x, source, want, 0)
			}
		}
	}
	// Where the last steps are not decided, what was put back is read again.
	goes(t, "a > | b ; bc > d", "xa", change{0, 0, "", block(2, 2, 2, 2), "xa", "xb", 1})
	goes(t, "a > | bb ; bbc > d", "a", change{0, 1, "a", block(2, 2, 2, 2), "a", "bb", 2})
}

// What both results have in common at their beginning is told first, and then what is left of them at their end.
func TestTheAnswer(t *testing.T) { // P16.2
	goes(t, "", "aaa",
		change{0, 0, "a", block(3, 3, 3, 4), "aaaa", "aaaa", 1},
		change{1, 2, "", block(3, 4, 3, 3), "aaa", "aaa", 0},
		change{1, 2, "aba", block(2, 2, 2, 4), "aabaa", "aabaa", 2},
		change{1, 3, "", block(2, 4, 2, 2), "aaa", "aaa", 0})
	goes(t, "", "abab",
		change{0, 0, "ab", block(4, 4, 4, 6), "ababab", "ababab", 2},
		change{0, 2, "", block(4, 6, 4, 4), "abab", "abab", 0},
		change{1, 3, "", block(2, 4, 2, 2), "ab", "ab", 0})
	// Bytes alone count, also those of two runes that begin or end alike.
	goes(t, "", "é", change{0, 2, "è", block(1, 2, 1, 2), "è", "è", 1})
	goes(t, "", "é", change{0, 2, "ĩ", block(0, 1, 0, 1), "ĩ", "ĩ", 1})
	// A source that changes, and no result; a source that changes little, and all of the result.
	goes(t, "[ab] > c", "aa", change{0, 1, "b", block(2, 2, 2, 2), "ba", "cc", 1})
	goes(t, ". > ", "ab", change{1, 1, "xyz", block(0, 0, 0, 0), "axyzb", "", 3})
	goes(t, "x { a > x ; a > y", "ba",
		change{0, 1, "x", block(0, 2, 0, 2), "xa", "xx", 2},
		change{0, 1, "", block(0, 2, 0, 1), "a", "y", 1})
}

// Cuts within runes; strays that become a rune, and runes that become strays.
func TestWithinRunes(t *testing.T) { // P16.2 to P16.4
	goes(t, "€ > E", "a€b",
		change{2, 3, "", block(1, 2, 1, 3), "a\xE2\xACb", "a\xE2\xACb", 2},
		change{2, 2, "\x82", block(1, 3, 1, 2), "a€b", "aEb", 1},
		change{1, 2, "", block(1, 2, 1, 3), "a\x82\xACb", "a\x82\xACb", 2},
		change{1, 1, "\xE2", block(1, 3, 1, 2), "a€b", "aEb", 1},
		change{3, 4, "\xAD", block(1, 2, 1, 4), "a\u20ADb", "a\u20ADb", 1},
		change{2, 2, "xx", block(2, 2, 2, 4), "a\xE2xx\x82\xADb", "a\xE2xx\x82\xADb", 5},
		change{2, 4, "", block(2, 4, 2, 2), "a\u20ADb", "a\u20ADb", 1})
	goes(t, "", "\xE2\x82", change{2, 2, "\xAC", block(2, 2, 2, 3), "€", "€", 1})
	goes(t, "", "€", change{2, 3, "", block(2, 3, 2, 2), "\xE2\x82", "\xE2\x82", 2})
	goes(t, "", "\x82\xAC", change{0, 0, "\xE2", block(0, 0, 0, 1), "€", "€", 1})
	// The rest is the same bytes; but units of it only where it begins at a border of both.
	goes(t, `\b{AC} > x`, "\xE2\x82\xAC\xAC", change{0, 1, "", block(0, 3, 0, 2), "\x82\xAC\xAC", "\x82xx", 2})
	goes(t, `\b{AC} > x`, "\x82\xAC\xAC", change{0, 0, "\xE2", block(0, 2, 0, 3), "\xE2\x82\xAC\xAC", "€x", 1})
	// A rune that the pass makes is none that it sees.
	goes(t, "a > ; € > E", "\xE2a\x82\xAC",
		change{1, 2, "", block(0, 3, 0, 1), "€", "E", 1},
		change{2, 2, "a", block(0, 1, 0, 3), "\xE2\x82a\xAC", "€", 4})
	goes(t, `a > \b{C3} ; b > \b{A9} ; é > E`, "ab", change{1, 2, "c", block(1, 2, 1, 2), "ac", "\xC3c", 1}, change{2, 2, "ab", block(2, 2, 2, 4), "acab", "\xC3cé", 2})
	// A byte that could begin a rune is not decided till more is known.
	goes(t, "", "a\xF0\x90\x80b", change{5, 5, "c", block(5, 5, 5, 6), "a\xF0\x90\x80bc", "a\xF0\x90\x80bc", 1}, change{4, 4, "\x80", block(4, 4, 4, 5), "a\U00010000bc", "a\U00010000bc", 1})
}
