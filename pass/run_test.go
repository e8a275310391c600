package pass_test

import (
	"fmt"
	"slices"
	"strings"
	"testing"

	"respell/api"
	"respell/names"
	"respell/parse"
	"respell/pass"
)

// How passes are written in these tests: as a rules' text has them, or by hand where that can't.

// read is the pass of a rules' text; the last ; may be left out.
func read(t *testing.T, text string) api.Pass {
	t.Helper()
	if strings.TrimSpace(text) != "" && !strings.HasSuffix(text, ";") {
		text += " ;"
	}
	lines, fault := parse.Parse(text)
	if fault.Code != api.OK {
		t.Fatalf("%s: %v", text, fault)
	}
	passes, line, e := names.Passes(lines)
	if e != api.OK || len(passes) != 1 {
		t.Fatalf("%s: %d passes, %d, %d", text, len(passes), line, e)
	}
	return passes[0]
}

func of(n ...int) api.Set {
	var s api.Set
	for i := 0; i+1 < len(n); i += 2 {
		s = append(s, api.Range{Lo: n[i], Hi: n[i+1]})
	}
	return s
}

func row(l ...api.Set) []api.Set { return l }

func pieces(l ...api.Piece) []api.Piece { return l }

func unit(u int) api.Piece               { return api.Piece{Kind: api.PUnit, Unit: u} }
func again(k int) api.Piece              { return api.Piece{Kind: api.PCopy, Key: k} }
func paired(k int, to api.Set) api.Piece { return api.Piece{Kind: api.PPair, Key: k, To: to} }

const (
	maxRune  = 0x10FFFF
	firstRaw = 0x110080
	lastRaw  = 0x1100FF
)

var (
	a   = of('a', 'a')
	abc = of('a', 'c')
	xyz = of('x', 'z')
	all = of(0, 0xD7FF, 0xE000, maxRune, firstRaw, lastRaw)
)

// runs holds what a run makes of a text against what is wanted.
func runs(t *testing.T, p api.Pass, text, want string) {
	t.Helper()
	if got, e := pass.Run(p, text); got != want || e != api.OK {
		t.Errorf("%.300s over %.60q: %.60q, %d; want %.60q", fmt.Sprint(p), text, got, e, want)
	}
}

func runsText(t *testing.T, rules, text, want string) {
	t.Helper()
	if got, e := pass.Run(read(t, rules), text); got != want || e != api.OK {
		t.Errorf("%s over %.60q: %.60q, %d; want %.60q", rules, text, got, e, want)
	}
}

// refuses holds that neither of the calls answers anything but an error.
func refuses(t *testing.T, p api.Pass, text string, code api.Errno) {
	t.Helper()
	if got, e := pass.Run(p, text); got != "" || e != code {
		t.Errorf("%.300s over %.60q: Run tells %.60q, %d; want %d", fmt.Sprint(p), text, got, e, code)
	}
	if seq, e := pass.Steps(p, text); seq != nil || e != code {
		t.Errorf("%.300s over %.60q: Steps tells %d and an iterator: %t; want %d", fmt.Sprint(p), text, e, seq != nil, code)
	}
}

func TestRunExamples(t *testing.T) { // P10.1
	runsText(t, "a > x ; ab > y", "abaab", "yxy")
	runsText(t, "ab > b | c ; c > d", "ab", "bd")
	runsText(t, "x { a > x ; a > y", "aaxa", "yyxx")
	runsText(t, "a > ", "\xE2a\x82", "\xE2\x82")
	runsText(t, "a } $ > z", "aa", "az")
	runsText(t, "", "", "")
	for _, rules := range []string{"", "a > x ; ab > y", "a } $ > z"} {
		refuses(t, read(t, rules), strings.Repeat("a", 16385), api.ErrLong)
	}
}

func TestExamplesOfTheWhole(t *testing.T) { // P10.1, DOC.md
	runsText(t, "a > b", "aXa", "bXb")
	runsText(t, "a > b", "\xE2a\x82", "\xE2b\x82")
	runsText(t, "a > ", "\xE2a\x82\xAC", "€")
	runsText(t, "€ > E", "\xE2\x82\xAC", "E")
	runsText(t, "a } b > x", "abaa", "xbaa")
	runsText(t, "x { a > x ; a > y", "xaa", "xxx")
	runsText(t, "^ { a > A", "aa", "Aa")
	runsText(t, "[a-c] > @1:[x-z]", "abcd", "xyzd")
	runsText(t, "[x-z] > @1:[a-c]", "xyzd", "abcd")
	runsText(t, `\b{80} > E`, "\x80€", "E€")
	runsText(t, `a > \b{C3} ; b > \b{A9}`, "ab", "é")
	refuses(t, read(t, "ab > | ba"), "ab", api.ErrWeighMost)
}

// refused are passes that may not be, and why: each of the errors that weigh.Check has.
var refused = []struct {
	rules []api.Rule
	code  api.Errno
}{
	{[]api.Rule{{}}, api.ErrRuleKey},
	{[]api.Rule{{Key: slices.Repeat(row(a), 9)}}, api.ErrRuleKey},
	{[]api.Rule{{Key: row(of('b', 'a'))}}, api.ErrRuleSet},
	{[]api.Rule{{Key: row(a, nil)}}, api.ErrRuleSet},
	{[]api.Rule{{Key: row(a), Ante: row(of(0, maxRune))}}, api.ErrRuleSet},
	{[]api.Rule{{Key: row(a), Post: slices.Repeat(row(a), 9)}}, api.ErrRuleMany},
	{[]api.Rule{{Key: row(a), Result: slices.Repeat(pieces(unit('a')), 17), Cursor: 17}}, api.ErrRuleMany},
	{slices.Repeat([]api.Rule{{Key: row(a)}}, 257), api.ErrRuleMany},
	{[]api.Rule{{Key: row(a), Result: pieces(unit(0xD800)), Cursor: 1}}, api.ErrRulePiece},
	{[]api.Rule{{Key: row(a), Result: pieces(api.Piece{}), Cursor: 1}}, api.ErrRulePiece},
	{[]api.Rule{{Key: row(a), Result: pieces(again(1)), Cursor: 1}}, api.ErrRuleCopy},
	{[]api.Rule{{Key: row(a), Result: pieces(paired(0, abc)), Cursor: 1}}, api.ErrRulePair},
	{[]api.Rule{{Key: row(a), Cursor: 1}}, api.ErrRuleCursor},
	{[]api.Rule{{Key: row(a), Result: pieces(unit('b')), Cursor: -1}}, api.ErrRuleCursor},
	{[]api.Rule{{Key: row(a), Result: pieces(again(0))}}, api.ErrWeighBack},
	{[]api.Rule{{Key: row(a, a), Result: pieces(again(1), again(1))}}, api.ErrWeighBack},
	{[]api.Rule{{Key: row(a), Result: pieces(unit('a'))}}, api.ErrWeighMost},
	{[]api.Rule{{Key: row(a), Result: pieces(unit('b'))}, {Key: row(of('b', 'b')), Result: pieces(unit('a'))}}, api.ErrWeighMost},
}

func TestRefusedPasses(t *testing.T) { // P10.1, P10.2
	good := api.Rule{Key: row(of('q', 'q')), Result: pieces(unit('r')), Cursor: 1}
	for _, x := range refused {
		for _, text := range []string{"", "a", "b", "q", "xaaax\xFF", strings.Repeat("b", 16384), strings.Repeat("a", 16385), strings.Repeat("€", 40000)} {
			refuses(t, api.Pass{Rules: x.rules}, text, x.code)
			refuses(t, api.Pass{Rules: slices.Concat([]api.Rule{good}, x.rules)}, text, x.code)
			if len(x.rules) < 256 {
				refuses(t, api.Pass{Rules: slices.Concat(x.rules, []api.Rule{good})}, text, x.code)
			}
		}
	}
}

func TestTheFirstErrorOfSeveral(t *testing.T) { // P10.1, P10.2: rules ahead of weights, weights ahead of the text
	long := strings.Repeat("a", 16385)
	bad := api.Rule{Key: row(a), Cursor: 1}
	circle := api.Rule{Key: row(a), Result: pieces(unit('a'))}
	twice := api.Rule{Key: row(a, a), Result: pieces(again(1), again(1))}
	refuses(t, api.Pass{Rules: []api.Rule{circle, twice, bad}}, long, api.ErrRuleCursor)
	refuses(t, api.Pass{Rules: []api.Rule{circle, twice}}, long, api.ErrWeighBack)
	refuses(t, api.Pass{Rules: []api.Rule{circle}}, long, api.ErrWeighMost)
	refuses(t, api.Pass{}, long, api.ErrLong)
}

func TestHowLongATextMayBe(t *testing.T) { // P10.1, P10.2
	for _, n := range []int{16385, 16386, 16388, 20000, 32768, 1 << 20} {
		for _, x := range []string{"a", "b", "é", "\xFF", "€", "\U0010FFFF"} {
			// Bytes count, not units.
			refuses(t, read(t, "a > x"), strings.Repeat(x, n/len(x)+1), api.ErrLong)
			refuses(t, api.Pass{}, strings.Repeat(x, n/len(x)+1), api.ErrLong)
			refuses(t, read(t, ". > "), strings.Repeat("x", n), api.ErrLong)
		}
	}
	for _, n := range []int{16383, 16384} {
		runsText(t, "a > x", strings.Repeat("a", n), strings.Repeat("x", n))
		runsText(t, "", strings.Repeat("\xE2", n), strings.Repeat("\xE2", n))
		runsText(t, ". > ", strings.Repeat("€", n/3)+"\xE2"[:n%3], "")
	}
	runsText(t, `\x{10FFFF} > \b{80}`, strings.Repeat("\U0010FFFF", 4096), strings.Repeat("\x80", 4096))
	runsText(t, `\x{10FFFF} } $ > \b{80}`, strings.Repeat("\U0010FFFF", 4096), strings.Repeat("\U0010FFFF", 4095)+"\x80")
}

func TestWhatIsMadeMayBeLonger(t *testing.T) { // P10.1: a text that comes in alone has a limit
	runsText(t, "a > bb", strings.Repeat("a", 16384), strings.Repeat("b", 32768))
	p := api.Pass{Rules: []api.Rule{{Key: row(all), Result: slices.Repeat(pieces(unit(maxRune)), 16), Cursor: 16}}}
	runs(t, p, strings.Repeat("a", 16384), strings.Repeat("\U0010FFFF", 16*16384))
	runs(t, p, strings.Repeat("\xE2", 16384), strings.Repeat("\U0010FFFF", 16*16384))
}

func TestNoRulesAndNoText(t *testing.T) { // P10.1, P10.4
	for _, text := range []string{"", "a", "\x00", "é€\U0010FFFF", "\xE2\x82", "\xED\xA0\x80\xC0\x80\xFF", "\uFFFD\xEF\xBF"} {
		runsText(t, "", text, text)
		runs(t, api.Pass{Rules: []api.Rule{}}, text, text)
	}
	for _, rules := range []string{"a > b", ". > x", "^ { . } $ > x", "a > | b ; b > "} {
		runsText(t, rules, "", "")
	}
}

func TestRunesAndStrays(t *testing.T) { // P10.1
	for _, x := range [][3]string{
		// Of each width, in the text and in what is written.
		{"a > é ; é > € ; € > \\x{10FFFF} ; \\x{10FFFF} > a", "aé€\U0010FFFF", "é€\U0010FFFFa"}, {"é > ", "aébé", "ab"}, {"\\x{0} > \\x{7F} ; \\x{7F} > \\x{80}", "\x00\x7F\u0080", "\x7F\u0080\u0080"}, {"\\x{D7FF} > \\x{E000}", "\uD7FF\uE000", "\uE000\uE000"},
		{"[\\x{7FF}-\\x{800}] > @1 @1", "\u07FF\u0800\u0801", "\u07FF\u07FF\u0800\u0800\u0801"},
		// Strays are units by themselves, and keep their bytes.
		{"\\b{80} > x", "\x80\x81\x80", "x\x81x"}, {"\\b{E2} > x", "\xE2€\xE2", "x€x"}, {"\\b{E2} > x", "\xE2\x82", "x\x82"}, {"\\b{82} > x", "\xE2\x82€", "\xE2x€"}, {"\\b{AC} > x", "€", "€"}, {"[\\b{80}-\\b{FF}] > @1 @1", "\xFFa\x80", "\xFF\xFFa\x80\x80"}, {". > x", "\xE2\x82a€", "xxxx"}, {".. > x", "\xF0\x90\x80", "x\x80"}, {".... > x", "\xF0\x90\x80\x80", "\U00010000"}, {"[:rune:] > r ; [:stray:] > s", "a\xC3é\xC0\x80\xED\xA0\x80", "rsrsssss"},
		// The rune FFFD is no stray, and no stray is it.
		{"\\x{FFFD} > F", "\uFFFD\xFF\xEF\xBF\uFFFD", "F\xFF\xEF\xBFF"}, {"\\b{EF}\\b{BF} > F", "\uFFFD\xEF\xBF\xBD\xEF\xBF", "\uFFFD\uFFFDF"}, {"\\b{EF} > F", "\uFFFD", "\uFFFD"}, {"\\b{FF} > \\x{FFFD}", "a\xFF", "a\uFFFD"}, {"a > \\x{FFFD} | b ; b > \\b{EF}\\b{BF}\\b{BD}", "a", "\uFFFD\uFFFD"},
		// A rune that is cut off at the end.
		{"€ > E", "€\xE2\x82", "E\xE2\x82"}, {"\\b{E2} } \\b{82} $ > E", "€\xE2\x82", "€E\x82"},
		// Pairs and copies across the borders of runes and strays.
		{"[a-c] > @1:[\\x{10FFFF}\\b{80}\\b{FF}]", "abc", "\U0010FFFF\x80\xFF"}, {"[\\x{D7FF}\\x{E000}\\b{80}] > @1:[x-z]", "\x80\uE000\uD7FF", "zyx"}, {"..  > @2 @1", "€\xE2é", "\xE2€é"},
	} {
		runsText(t, x[0], x[1], x[2])
	}
}

func TestStraysThatComeSideBySide(t *testing.T) { // P10.1: the bytes of DONE stand one behind the other, whatever they make together
	for _, x := range [][3]string{
		{"a > ", "\xE2a\x82\xAC", "€"}, {"a > ", "\xE2a\x82a\xAC", "€"}, {"a > ", "\xF0\x90a\x80\x80", "\U00010000"}, {"a > ", "\xC3a\xC3\xA9a\xA9", "\xC3é\xA9"},
		{"a > \\b{E2}\\b{82}\\b{AC}", "xax", "x€x"}, {"a > \\b{E2} ; b > \\b{82} ; c > \\b{AC}", "abcb", "€\x82"}, {"\\b{82} > \\b{A9}", "\xC3\x82\x82", "\u00C2\xA9"}, {"\\b{82} > \\b{A9}", "\xC3\x41\x82", "\xC3A\xA9"}, {". > @1 @1", "\xC3\xC3", "\xC3\xC3\xC3\xC3"}, {".. > @2 @1", "\xA9\xC3", "é"},
		// In a pass they stay the units that they were, in what is done and in what is left.
		{"a > ; € > E", "\xE2a\x82\xAC", "€"}, {"a > ; é > E ; é { b > B", "\xC3a\xA9b", "éb"}, {"a > ; \\b{C3}\\b{A9} { b > B", "\xC3a\xA9b", "éB"}, {"a > | \\b{C3} ; é > E", "a\xA9", "é"}, {"a > | \\b{C3} ; \\b{C3}\\b{A9} > E", "a\xA9", "E"}, {"a > | \\b{C3}\\b{A9} ; é > E ; \\b{A9} } $ > F", "a", "\xC3F"}, {"x } é > X ; x } \\b{C3}\\b{A9} > Y", "xé", "Xé"},
		{"é > \\b{C3}\\b{A9} ; é { a > A ; \\b{A9} { b > B", "éaéb", "éaéB"},
	} {
		runsText(t, x[0], x[1], x[2])
	}
}

func TestTheLongestKeyAndTheFirstRule(t *testing.T) { // P10.1
	for _, x := range [][3]string{
		{"a > x ; ab > y ; abc > z", "aababcab", "xyzy"}, {"abc > z ; ab > y ; a > x", "aababcab", "xyzy"}, {"a > x ; a > y", "aa", "xx"}, {"[ab] > x ; [bc] > y", "abc", "xxy"}, {"a > x ; . > y ; ab > z ; .. > w", "abba", "zw"}, {"a } b > x ; ab } c > y ; a > z", "abcaba", "ycxbz"}, {"a > x ; y { a > z", "yaa", "yxx"}, {"y { a > z ; a > x", "yaa", "yzx"}, {"^ { a > 0 ; a } $ > 1 ; a > 2", "aaa", "021"}, {"aaaaaaaa > 8 ; a > 1", "aaaaaaaaaa", "811"},
		// A longer key that does not fit leaves the place to a shorter one.
		{"abcd > x ; ab > y", "abcabcd", "ycx"}, {"q { abc > x ; ab > y ; a > z", "abcqabcacb", "ycqxzcb"},
		// Keys do not lie across one another.
		{"aa > x", "aaaaa", "xxa"}, {"aba > x", "ababa", "xba"},
	} {
		runsText(t, x[0], x[1], x[2])
	}
	// Alike in length, far behind one another, with others between.
	var p api.Pass
	for n := range 256 {
		p.Rules = append(p.Rules, api.Rule{Key: slices.Repeat(row(of('a', 'a'+n%7)), 1+n%8), Result: pieces(unit(0x1000 + n)), Cursor: 1})
	}
	runs(t, p, "aaaaaaaa", "\u1007")
	runs(t, p, "g", "\u1030")
	runs(t, p, "ggggggggg", "\u1037\u1030")
	runs(t, p, "aag", "\u1022")
}

func TestWhatIsPutBack(t *testing.T) { // P10.1
	for _, x := range [][3]string{
		// Met again by another rule, and by one that stands ahead.
		{"a > | b ; b > c", "aa", "cc"}, {"b > c ; a > | b", "aa", "cc"}, {"a > x | b ; b > y | c ; c > z", "a", "xyz"}, {"a > | bb ; b > | cc ; c > d", "aba", "dddddddddd"}, {"a > x | y", "aa", "xyxy"},
		// Met again by the same one.
		{"aa > | a", "aaaa", "a"}, {"aa > x | a", "aaaa", "xxxa"}, {"ab > y | a", "abbb", "yyya"}, {"[ab]b > x | @2", "abbb", "xxxb"}, {"[ab][ab] > @1:[xy] | @2", "abba", "xyya"},
		// With what stands behind, and with what was put back ahead of it.
		{"a > | b ; bc > x", "acab", "xbb"}, {"a > | bc ; cd > x ; bc > y", "ad", "yd"}, {"a > | bc ; cd > x", "ad", "bx"}, {"ab > | @2 c ; bcd > x", "abd", "x"}, {"abc > | @3 @2 ; cb > x", "abc", "x"}, {"abc > | @3 @2 ; cb > x", "abd", "abd"}, {"a > | bbbbbbbb ; bbbbbbb > y", "aa", "ybyb"},
		// Copies and pairs come back too.
		{"[ab][xy] > | @1:[cd] @2:[pq] ; c > C ; q > Q", "axby", "CpdQ"}, {"[a-c] > @1 | @1:[x-z] ; y > Y", "abc", "axbYcz"},
		// Contexts look at what was put back, then at the source.
		{"a > | b ; c } b > x ; b } c > y", "ca", "cb"}, {"c } b > x ; a > | cb", "a", "xb"}, {"a > | c ; c } $ > E ; c } b > B", "aba", "BbE"}, {"x > | cb ; c } bd > y", "xdxb", "ybdcbb"},
		// What is put back at the end is left, and no end yet.
		{"a > | bc ; b } $ > E ; c } $ > F", "a", "bF"}, {"a } $ > | bc ; b } $ > E ; c } $ > F", "aa", "abF"},
		// More than was taken, again and again, and nothing.
		{"a > | bbb ; b > | ccc ; c > | ddd ; d > ", "aaa", ""}, {"a > | bbb ; b > | ccc ; c > | ddd ; d > e", "a", strings.Repeat("e", 27)}, {"ab > |", "aabb", "ab"},
	} {
		runsText(t, x[0], x[1], x[2])
	}
}

func TestContexts(t *testing.T) { // P10.1
	for _, x := range [][3]string{
		// What is ahead is what was written, not what stood there.
		{"x { a > x ; b > x", "baab", "xxxx"}, {"b { a > y ; b > x", "ba", "xa"}, {"a { a > b", "aaaa", "abab"}, {"b { a > ; a > b", "aaaa", "b"}, {"x { a > y ; b > xz", "ba", "xza"}, {"z { a > y ; b > xz", "ba", "xzy"}, {"xz { a > y ; b > xz", "ba", "xzy"}, {"b > ; c { a > y", "cba", "cy"},
		// Several units of it, the last one last.
		{"xyz { a > !", "xyzaxya", "xyz!xya"}, {". . . { a > !", "aaaaaa", "aaa!!!"},
		// What is behind is what is left.
		{"a } x > ! ; x > y", "axaa", "!yaa"}, {"a } xyz > !", "axyaxyz", "axy!xyz"}, {"a } . > ", "aaaa", "a"}, {"a } .. > ", "aaaa", "aa"},
		// Begin and End, with and without more.
		{"^ { a > !", "aaa", "!aa"}, {"^ { a > ", "aaa", ""}, {"^ { a > | b ; ^ { b > c", "aa", "ca"}, {"^ x { a > !", "xaxa", "x!xa"}, {"^ x { a > !", "yxa", "yxa"}, {"a } $ > !", "aaa", "aa!"}, {"a } x $ > !", "axax", "ax!x"}, {"^ { a } $ > !", "a", "!"}, {"^ { a } $ > !", "aa", "aa"}, {"^ { a } b $ > !", "ab", "!b"}, {"^ . { a } . $ > !", "aaa", "a!a"}, {"^ . { a } . $ > !", "aaaa", "aaaa"},
		// What was taken away is no longer ahead: the beginning may come again.
		{"x > ; ^ { a > !", "xxaa", "!a"}, {"^ b { a > ! ; x > ", "xbxa", "b!"},
		{"^ { . > ", "any\xFFtext", ""},
	} {
		runsText(t, x[0], x[1], x[2])
	}
}
