package round_test

import (
	"slices"
	"strings"
	"testing"

	"respell/api"
	"respell/turn"
	"respell/weigh"
)

// comesNot holds that both calls refuse, and answer nothing beside that.
func comesNot(t *testing.T, p api.Pass, s string, code api.Errno) {
	t.Helper()
	if comes, sure := told(t, p, s); comes != (answer{code: code}) || sure != comes {
		t.Errorf("%s over %.60q: %v, %v; want %d", brief(p), s, comes, sure, code)
	}
}

// illegal is passes that weigh.Check refuses, and why: each of its errors.
var illegal = []struct {
	rules []api.Rule
	code  api.Errno
}{
	{[]api.Rule{{}}, api.ErrRuleKey},
	{[]api.Rule{{Key: slices.Repeat(row(of('a', 'a')), 9), Result: pieces(unit('x')), Cursor: 1}}, api.ErrRuleKey},
	{[]api.Rule{{Key: row(of('b', 'a')), Result: pieces(unit('x')), Cursor: 1}}, api.ErrRuleSet},
	{[]api.Rule{{Key: row(of('a', 'a'), nil), Result: pieces(unit('x')), Cursor: 1}}, api.ErrRuleSet},
	{[]api.Rule{{Key: row(of('a', 'a')), Ante: row(of(0, maxRune)), Result: pieces(unit('x')), Cursor: 1}}, api.ErrRuleSet},
	{[]api.Rule{{Key: row(of('a', 'a')), Post: slices.Repeat(row(of('1', '1')), 9), Result: pieces(unit('x')), Cursor: 1}}, api.ErrRuleMany},
	{[]api.Rule{{Key: row(of('a', 'a')), Result: slices.Repeat(pieces(unit('x')), 17), Cursor: 17}}, api.ErrRuleMany},
	{slices.Repeat([]api.Rule{{Key: row(of('a', 'a')), Result: pieces(unit('x')), Cursor: 1}}, 257), api.ErrRuleMany},
	{[]api.Rule{{Key: row(of('a', 'a')), Result: pieces(unit(0xD800)), Cursor: 1}}, api.ErrRulePiece},
	{[]api.Rule{{Key: row(of('a', 'a')), Result: pieces(api.Piece{}), Cursor: 1}}, api.ErrRulePiece},
	{[]api.Rule{{Key: row(of('a', 'a')), Result: pieces(again(1)), Cursor: 1}}, api.ErrRuleCopy},
	{[]api.Rule{{Key: row(of('a', 'a')), Result: pieces(paired(0, of('x', 'z'))), Cursor: 1}}, api.ErrRulePair},
	{[]api.Rule{{Key: row(of('a', 'a')), Result: pieces(unit('x')), Cursor: 2}}, api.ErrRuleCursor},
	{[]api.Rule{{Key: row(of('a', 'a')), Result: pieces(unit('x')), Cursor: -1}}, api.ErrRuleCursor},
	{[]api.Rule{{Key: row(of('a', 'a')), Result: pieces(again(0))}}, api.ErrWeighBack},
	{[]api.Rule{{Key: row(of('a', 'a')), Result: pieces(unit('a'))}}, api.ErrWeighMost},
	{[]api.Rule{{Key: row(of('a', 'a')), Result: pieces(unit('b'))}, {Key: row(of('b', 'b')), Result: pieces(unit('a'))}}, api.ErrWeighMost},
}

// oneWay is passes that turn.Turn refuses, and why: each of its errors.
var oneWay = map[string]api.Errno{
	"a > ": api.ErrTurnResult, "a > x | b": api.ErrTurnResult, "a > \\b{A9}": api.ErrTurnResult, "[\\b{80}b] > @1": api.ErrTurnResult, "a > xxxxxxxxx": api.ErrTurnMany, "[ab] > x": api.ErrTurnTwice, "[ab] > @1@1": api.ErrTurnTwice, "a > x ; b > x": api.ErrTurnTwice, "a > x ; b > xy": api.ErrTurnPrefix, "b > xy ; a > x": api.ErrTurnPrefix, "a } b > x ; b > y": api.ErrTurnContext, "x { a > x": api.ErrTurnContext,
}

// each is n ranges of a unit each, of which no two touch.
func each(from, n int) api.Set {
	var s api.Set
	for i := range n {
		s = append(s, api.Range{Lo: from + 2*i, Hi: from + 2*i})
	}
	return s
}

// cut is a pass of which turn.Over's set has as many ranges as this one, and three.
func cut(n int) api.Pass {
	return rules(api.Rule{Key: row(each(0x1000, n)), Result: pieces(paired(0, each(0x10000, n))), Cursor: 1})
}

// shorts and longs are texts that are as long as may be, and longer ones.
var (
	shorts = []string{"", "a", "b", "x", "q", "xaaax\xFF", strings.Repeat("b", maxText), strings.Repeat("a", maxText)}
	longs  = []string{strings.Repeat("a", maxText+1), strings.Repeat("q", maxText+1), strings.Repeat("\xFF", maxText+1), strings.Repeat("€", maxText/3+1), strings.Repeat("ab", maxText), strings.Repeat("€", 100000)}
)

func TestPassesThatMayNotBe(t *testing.T) { // P20.1, P20.2: ahead of all else
	good := read(t, "q > r").Rules
	for _, x := range illegal {
		for _, s := range slices.Concat(shorts, longs) {
			comesNot(t, rules(x.rules...), s, x.code)
			comesNot(t, rules(slices.Concat(good, x.rules)...), s, x.code)
			if len(x.rules) < 256 {
				comesNot(t, rules(slices.Concat(x.rules, good)...), s, x.code)
			}
		}
	}
}

func TestPassesThatCanNotBeTurned(t *testing.T) { // P20.1, P20.2: ahead of the texts' lengths
	good := read(t, "q > r ; rq > QR").Rules
	for text, code := range oneWay {
		for _, s := range slices.Concat(shorts, longs) {
			p := read(t, text)
			comesNot(t, p, s, code)
			comesNot(t, rules(slices.Concat(good, p.Rules)...), s, code)
			comesNot(t, rules(slices.Concat(p.Rules, good)...), s, code)
		}
	}
}

func TestPassesThatMayNotBeNorBeTurned(t *testing.T) { // P20.1, P20.2: that they may not be is told
	for _, x := range illegal {
		if len(x.rules) > 256 {
			comesNot(t, rules(slices.Concat(read(t, "a > ").Rules, x.rules)...), "a", x.code)
			continue
		}
		for text := range oneWay {
			for _, s := range []string{"", "a", longs[0]} {
				// rule.All looks at all rules ahead of any weight.
				comesNot(t, rules(slices.Concat(read(t, text).Rules, x.rules)...), s, x.code)
				comesNot(t, rules(slices.Concat(x.rules, read(t, text).Rules)...), s, x.code)
			}
		}
	}
}

func TestTooLongTexts(t *testing.T) { // P20.1, P20.2
	for _, text := range []string{"", abc, "a > xx", "ab > x", "abababab > x", "a > b ; b > a", "^ { a > x"} {
		p := read(t, text)
		for _, s := range longs {
			comesNot(t, p, s, api.ErrLong)
		}
	}
	// By bytes, not by units; and what the pass makes of it may be as short as it likes.
	comesNot(t, read(t, abc), strings.Repeat("€", maxText/3)+"dd", api.ErrLong)
	comesNot(t, read(t, "€€€€€€€€ > x"), strings.Repeat("€", maxText/3+1), api.ErrLong)
	comesNot(t, read(t, "dd > x"), strings.Repeat("d", maxText+1), api.ErrLong)
}

func TestTextsThatBecomeTooLong(t *testing.T) { // P20.1: of Comes alone
	d := strings.Repeat("d", maxText)
	for _, x := range []struct {
		text, s string
		long    bool
	}{
		{"a > xx", strings.Repeat("a", maxText/2), false}, {"a > xx", strings.Repeat("a", maxText/2) + "d", true}, {"a > xx", strings.Repeat("a", maxText/2+1), true}, {"a > xx", strings.Repeat("a", maxText), true},
		{"a > xx", d[1:], false}, {"a > xx", d, false}, {"a > xx", d[2:] + "a", false}, {"a > xx", d[1:] + "a", true}, {"a > xx", "a" + d[1:], true}, {"a > xx", "a" + d[2:], false},
		{"a > é", d[2:] + "a", false}, {"a > é", d[1:] + "a", true}, {"a > xxxxxxxx", d[8:] + "a", false}, {"a > xxxxxxxx", d[7:] + "a", true}, {"\\b{80} > €", d[3:] + "\x80", false}, {"\\b{80} > €", d[2:] + "\x80", true},
		{"a > \\x{10FFFF}\\x{10FFFF}\\x{10FFFF}\\x{10FFFF}\\x{10FFFF}\\x{10FFFF}\\x{10FFFF}\\x{10FFFF}", strings.Repeat("a", maxText/32), false}, {"a > \\x{10FFFF}\\x{10FFFF}\\x{10FFFF}\\x{10FFFF}\\x{10FFFF}\\x{10FFFF}\\x{10FFFF}\\x{10FFFF}", strings.Repeat("a", maxText/32) + "d", true}, {"a > \\x{10FFFF}\\x{10FFFF}\\x{10FFFF}\\x{10FFFF}\\x{10FFFF}\\x{10FFFF}\\x{10FFFF}\\x{10FFFF}", strings.Repeat("a", maxText), true},
		{"a > xx ; bb > y", strings.Repeat("abb", maxText/3) + "d", false}, {"a > xx ; bb > y", strings.Repeat("a", maxText/3) + strings.Repeat("bb", maxText/3) + "a", true},
	} {
		want := answer{is: !x.long}
		if x.long {
			want.code = api.ErrLong
		}
		comes, sure := told(t, read(t, x.text), x.s)
		if comes != want || sure != (answer{is: true}) {
			t.Errorf("%s over %d bytes, %.60q: %v, %v; want %v", x.text, len(x.s), x.s, comes, sure, want)
		}
	}
	// A pass that may not be, or can't be turned, says so; nothing runs then.
	bad, one := api.Rule{Key: row(of('q', 'q')), Cursor: 1}, api.Rule{Key: row(of('q', 'q'))}
	grows := read(t, "a > xxxxxxxx").Rules[0]
	comesNot(t, rules(grows, bad), strings.Repeat("a", maxText), api.ErrRuleCursor)
	comesNot(t, rules(grows, one), strings.Repeat("a", maxText), api.ErrTurnResult)
	comesNot(t, rules(grows, grows, read(t, "b > x").Rules[0]), strings.Repeat("a", maxText), api.ErrTurnPrefix)
}

func TestATurnedPassIsNotRefused(t *testing.T) { // P20.1: by weigh.Check, whatever the pass is
	for _, m := range []maker{made(301, 0), made(302, 3)} {
		for range 3000 {
			p := m.fine(8)
			turned, _, _ := turn.Turn(p)
			if n, e := weigh.Check(turned); n != 0 || e != api.OK {
				t.Fatalf("%s, turned: %d, %d", brief(p), n, e)
			}
			if comes, _ := told(t, p, ""); comes != (answer{is: true}) {
				t.Fatalf("%s: %v", brief(p), comes)
			}
		}
	}
	// The longest rules, the other way about.
	for _, text := range []string{"abcdefgh > x", "a > xxxxxxxx", "12345678 { [ab][cd][ef][gh][ij][kl][mn][op] } 12345678 > @8@7@6@5@4@3@2@1"} {
		if comes, sure := told(t, read(t, text), "a"); comes != (answer{is: true}) || sure != comes {
			t.Errorf("%s: %v, %v", text, comes, sure)
		}
	}
}

func TestOverOfTooManyRanges(t *testing.T) { // P20.2: of Sure alone
	long := strings.Repeat("a", maxText+1)
	for n, code := range map[int]api.Errno{1: api.OK, 508: api.OK, 509: api.OK, 510: api.ErrTurnMany, 511: api.ErrTurnMany, 512: api.ErrTurnMany} {
		p := cut(n)
		for _, s := range []string{"", "a", "\xE2", string(rune(0x1000)), "d" + string(rune(0x1000+2*(n-1)))} {
			if comes, sure := told(t, p, s); comes != (answer{is: true}) || sure != (answer{is: code == api.OK, code: code}) {
				t.Errorf("%d over %q: %v, %v", n, s, comes, sure)
			}
		}
		// A unit of the last range that is gone.
		if comes, sure := told(t, p, "ab"+string(rune(0x10000+2*(n-1)))); comes != (answer{at: 2}) || sure != (answer{code: code}) {
			t.Errorf("%d: %v, %v", n, comes, sure)
		}
		// Ahead of a text that is too long, and behind all other errors.
		if code == api.OK {
			code = api.ErrLong
		}
		if comes, sure := told(t, p, long); comes != (answer{code: api.ErrLong}) || sure != (answer{code: code}) {
			t.Errorf("%d over a long text: %v, %v", n, comes, sure)
		}
		for text, code := range oneWay {
			comesNot(t, rules(slices.Concat(p.Rules, read(t, text).Rules)...), "a", code)
			comesNot(t, rules(slices.Concat(read(t, text).Rules, p.Rules)...), long, code)
		}
		for _, x := range illegal {
			comesNot(t, rules(slices.Concat(p.Rules, x.rules)...), "a", x.code)
			comesNot(t, rules(slices.Concat(p.Rules, x.rules)...), long, x.code)
		}
	}
}
