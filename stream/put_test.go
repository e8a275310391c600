package stream_test

import (
	"fmt"
	"slices"
	"strings"
	"testing"

	"respell/api"
	"respell/names"
	"respell/parse"
	"respell/stream"
	"respell/weigh"
)

// How passes and calls are written in these tests: passes as a rules' text has them, or by hand where that can't.

// read is the pass of a rules' text; the last ; may be left out.
func read(t *testing.T, text string) api.Pass {
	t.Helper()
	if strings.TrimSpace(text) == "" {
		return api.Pass{}
	}
	lines, fault := parse.Parse(text + " ;")
	if fault.Code != api.OK {
		t.Fatalf("%s: %v", text, fault)
	}
	passes, line, e := names.Passes(lines)
	if e != api.OK || len(passes) != 1 {
		t.Fatalf("%s: %d passes, %d, %d", text, len(passes), line, e)
	}
	return passes[0]
}

func of(n ...int) api.Set {
	var s api.Set
	for i := 0; i+1 < len(n); i += 2 {
		s = append(s, api.Range{Lo: n[i], Hi: n[i+1]})
	}
	return s
}

func row(l ...api.Set) []api.Set { return l }

func rules(l ...api.Rule) api.Pass { return api.Pass{Rules: l} }

func pieces(l ...api.Piece) []api.Piece { return l }

func unit(u int) api.Piece               { return api.Piece{Kind: api.PUnit, Unit: u} }
func again(k int) api.Piece              { return api.Piece{Kind: api.PCopy, Key: k} }
func paired(k int, to api.Set) api.Piece { return api.Piece{Kind: api.PPair, Key: k, To: to} }

const (
	maxRune  = 0x10FFFF
	firstRaw = 0x110080
	lastRaw  = 0x1100FF
)

var (
	a   = of('a', 'a')
	abc = of('a', 'c')
	all = of(0, 0xD7FF, 0xE000, maxRune, firstRaw, lastRaw)
)

// brief is a pass as it is told where a test fails.
func brief(p api.Pass) string { return fmt.Sprintf("%.300s", fmt.Sprint(p)) }

// begin is a stream of a pass that may be.
func begin(t *testing.T, p api.Pass) *stream.Stream {
	t.Helper()
	x, e := stream.New(p)
	if e != api.OK || x == nil {
		t.Fatalf("%s: %d", brief(p), e)
	}
	return x
}

func refuses(t *testing.T, p api.Pass, want api.Errno) {
	t.Helper()
	if x, e := stream.New(p); x != nil || e != want {
		t.Errorf("%s: %v, %d; want %d", brief(p), x != nil, e, want)
	}
}

// put is a Put, what it must tell, and how many bytes are held then.
type put struct {
	piece, told string
	held        int
}

// puts holds a stream against Puts.
func puts(t *testing.T, x *stream.Stream, l ...put) {
	t.Helper()
	for n, c := range l {
		if got := x.Put([]byte(c.piece)); string(got) != c.told || x.Held() != c.held || x.Closed() {
			t.Errorf("%d: Put(%q): %q, %d held, closed: %v; want %q, %d", n, c.piece, got, x.Held(), x.Closed(), c.told, c.held)
		}
	}
}

// closes holds a stream against its Close, behind which nothing is told any more.
func closes(t *testing.T, x *stream.Stream, want string) {
	t.Helper()
	if got := x.Close(); string(got) != want {
		t.Errorf("Close: %q; want %q", got, want)
	}
	for range 2 {
		if s, is := x.Doubt(); s != "" || is || !x.Closed() || x.Held() != 0 {
			t.Errorf("closed: %v, %d held, %q %v", x.Closed(), x.Held(), s, is)
		}
		if b := x.Put([]byte("ab\xE2")); len(b) > 0 {
			t.Errorf("behind a Close: %q", b)
		}
		if b := x.Close(); len(b) > 0 {
			t.Errorf("behind a Close: %q", b)
		}
	}
}

// goes holds a stream of a rules' text against Puts, and its Close.
func goes(t *testing.T, text, end string, l ...put) {
	t.Helper()
	x := begin(t, read(t, text))
	puts(t, x, l...)
	closes(t, x, end)
}

func TestExamples(t *testing.T) { // P15.2 to P15.4
	goes(t, "a > x ; ab > y", "", put{"a", "", 1}, put{"b", "y", 0}, put{"ab", "y", 0}, put{"ac", "xc", 0})
	goes(t, "a > x ; ab > y", "x", put{"a", "", 1})
	goes(t, "", "", put{"\xE2", "", 1}, put{"\x82", "", 2}, put{"a", "\xE2\x82a", 0})
	x := begin(t, api.Pass{})
	puts(t, x, put{"\xE2\x82", "", 2})
	if s, is := x.Doubt(); !is || s == "" || s[0] < 0x80 || s[0] > 0xBF {
		t.Errorf("%q %v", s, is)
	}
	closes(t, x, "\xE2\x82")
	goes(t, "ab > b | c ; cd > e", "", put{"ab", "b", 0}, put{"d", "e", 0})
	goes(t, "a > ", "", put{"\xE2a\x82", "\xE2\x82", 0}, put{"\xAC", "\xAC", 0})
	// The seventh one of the whole.
	goes(t, "^ { a > A", "", put{"a", "A", 0}, put{"a", "a", 0})
}

func TestNew(t *testing.T) { // P15.1
	for _, text := range []string{"", "a > b", ". > x", "a } $ > x", "a > | bb ; b > c"} {
		x := begin(t, read(t, text))
		if s, is := x.Doubt(); x.Held() != 0 || x.Closed() || s != "" || is {
			t.Errorf("%s: %d held, closed: %v, %q %v", text, x.Held(), x.Closed(), s, is)
		}
		closes(t, x, "")
	}
}

func TestRefusedPasses(t *testing.T) { // P15.1
	nine := slices.Repeat(row(a), 9)
	for n, x := range []struct {
		p    api.Pass
		want api.Errno
	}{
		{rules(slices.Repeat([]api.Rule{{Key: row(a)}}, 257)...), api.ErrRuleMany},
		{rules(slices.Repeat([]api.Rule{{}}, 257)...), api.ErrRuleMany},
		{rules(api.Rule{}), api.ErrRuleKey},
		{rules(api.Rule{Key: nine}), api.ErrRuleKey},
		{rules(api.Rule{Key: row(a)}, api.Rule{Key: row(a), Ante: nine}), api.ErrRuleMany},
		{rules(api.Rule{Key: row(a), Post: nine}), api.ErrRuleMany},
		{rules(api.Rule{Key: row(a), Result: slices.Repeat(pieces(unit('b')), 17)}), api.ErrRuleMany},
		{rules(api.Rule{Key: row(a, nil)}), api.ErrRuleSet},
		{rules(api.Rule{Key: row(of('b', 'a'))}), api.ErrRuleSet},
		{rules(api.Rule{Key: row(a), Result: pieces(api.Piece{})}), api.ErrRulePiece},
		{rules(api.Rule{Key: row(a), Result: pieces(again(1))}), api.ErrRuleCopy},
		{rules(api.Rule{Key: row(abc), Result: pieces(paired(0, a))}), api.ErrRulePair},
		{rules(api.Rule{Key: row(a), Cursor: 1}), api.ErrRuleCursor},
		{rules(api.Rule{Key: row(a), Cursor: -1}), api.ErrRuleCursor},
		{read(t, "a > | a"), api.ErrWeighMost},
		{read(t, "a > | b ; b > | a"), api.ErrWeighMost},
		{read(t, "ab > | ba"), 0},
		// What rule.All refuses stands ahead of what weigh.Check refuses behind that, in whatever order the rules stand.
		{rules(read(t, "a > | a").Rules[0], api.Rule{}), api.ErrRuleKey},
		{rules(api.Rule{Key: row(a), Cursor: 9}, read(t, "a > | a").Rules[0]), api.ErrRuleCursor},
	} {
		_, e := weigh.Check(x.p)
		if x.want == 0 {
			x.want = e
		}
		if e == api.OK || e != x.want {
			t.Fatalf("%d: %d, not %d", n, e, x.want)
		}
		refuses(t, x.p, x.want)
	}
}

func TestPutNothing(t *testing.T) { // P15.2
	goes(t, "a > x ; ab > y", "", put{}, put{"a", "", 1}, put{"", "", 1}, put{"", "", 1}, put{"b", "y", 0}, put{})
	x := begin(t, read(t, "a > x ; ab > y"))
	if b := x.Put(nil); len(b) > 0 {
		t.Errorf("%q", b)
	}
	closes(t, x, "")
	goes(t, "", "\xE2\x82", put{}, put{"\xE2", "", 1}, put{"", "", 1}, put{"\x82", "", 2}, put{"", "", 2})
	// What was put back stays, too.
	goes(t, "ab > b | c ; cd > e", "c", put{"ab", "b", 0}, put{"", "", 0}, put{"d", "e", 0}, put{"ab", "b", 0}, put{"", "", 0})
}

func TestPiecesOfOneByte(t *testing.T) { // P15.2
	goes(t, "a > x ; ab > y ; abc > z", "y", put{"a", "", 1}, put{"b", "", 2}, put{"c", "z", 0}, put{"a", "", 1}, put{"a", "x", 1}, put{"b", "", 2}, put{"d", "yd", 0}, put{"a", "", 1}, put{"b", "", 2})
	goes(t, "abcd > x", "abc", put{"a", "", 1}, put{"b", "", 2}, put{"c", "", 3}, put{"a", "abc", 1}, put{"b", "", 2}, put{"c", "", 3}, put{"d", "x", 0}, put{"b", "b", 0}, put{"a", "", 1}, put{"b", "", 2}, put{"c", "", 3})
	// A step that is decided at last leaves others behind it that are, or are not.
	goes(t, "aaab > x ; aa > y", "ya", put{"a", "", 1}, put{"a", "", 2}, put{"a", "", 3}, put{"a", "y", 2}, put{"a", "", 3}, put{"b", "x", 0}, put{"aaaa", "y", 2}, put{"c", "yc", 0}, put{"aaa", "", 3})
	goes(t, "a } b > x", "a", put{"a", "", 1}, put{"b", "xb", 0}, put{"a", "", 1}, put{"a", "a", 1}, put{"c", "ac", 0}, put{"a", "", 1})
}

func TestCutWithinRunes(t *testing.T) { // P15.2
	goes(t, "", "", put{"\xC3", "", 1}, put{"\xA9", "é", 0}, put{"\xE2", "", 1}, put{"\x82", "", 2}, put{"\xAC", "€", 0}, put{"\xF0", "", 1}, put{"\x90", "", 2}, put{"\x80", "", 3}, put{"\x80", "\U00010000", 0})
	goes(t, "€ > E", "", put{"a\xE2", "a", 1}, put{"\x82", "", 2}, put{"\xACb\xE2\x82", "Eb", 2}, put{"\xAC\xE2", "E", 1}, put{"\x82\xAC", "E", 0})
	goes(t, "€ > E", "", put{"\xE2\x82", "", 2}, put{"\xAD", "₭", 0}, put{"\xE2\x82", "", 2}, put{"\xE2", "\xE2\x82", 1}, put{"\x82\xAC", "E", 0})
	goes(t, "a } € > x", "", put{"a\xE2", "", 2}, put{"\x82", "", 3}, put{"\xAC", "x€", 0}, put{"a\xE2\x83", "a", 2}, put{"\xAC", "\xE2\x83\xAC", 0})
	// Where a rune and a stray are both what is wanted, the rule is done, and the bytes stay.
	goes(t, "a } . > x", "\xE2", put{"a\xE2", "x", 1}, put{"\x82", "", 2}, put{"\xAC", "€", 0}, put{"a\xE2", "x", 1})
	goes(t, "a€ > x", "a\xE2\x82", put{"a", "", 1}, put{"\xE2\x82", "", 3}, put{"\xAC", "x", 0}, put{"a\xE2\x82", "", 3})
}

func TestStraysWhateverComes(t *testing.T) { // P15.2
	for _, s := range []string{"\x80", "\xBF", "\xC0", "\xC1", "\xF5", "\xFF", "\xC0\x80", "\xE0\x9F", "\xED\xA0", "\xF0\x8F", "\xF4\x90", "\xFF\xFE", "\xED\xA0\x80"} {
		goes(t, "", "", put{s, s, 0}, put{s + s, s + s, 0})
		goes(t, "a > x ; ab > y", "", put{"a" + s, "x" + s, 0}, put{s + "ab" + s, s + "y" + s, 0})
	}
	// Such as may yet become a rune, and do not.
	for _, s := range []string{"\xC2", "\xDF", "\xE0", "\xE0\xA0", "\xED", "\xED\x9F", "\xEF\xBF", "\xF0", "\xF0\x90", "\xF0\x90\x80", "\xF4", "\xF4\x8F\xBF"} {
		goes(t, "", s, put{s, "", len(s)}, put{"a", s + "a", 0}, put{s, "", len(s)}, put{"\xFF", s + "\xFF", 0}, put{s, "", len(s)}, put{s, s, len(s)}, put{"", "", len(s)})
		goes(t, "é > x", s, put{"b" + s, "b", len(s)})
	}
	goes(t, `\b{E2} > x ; \b{82} > y`, "xy", put{"\xE2", "", 1}, put{"\x82", "", 2}, put{"b", "xyb", 0}, put{"\x82\xE2", "y", 1}, put{"\xE2", "x", 1}, put{"\x82", "", 2})
	goes(t, `\b{E2} \b{82} > z ; € > E`, "z", put{"\xE2\x82", "", 2}, put{"\xAC", "E", 0}, put{"\xE2\x82", "", 2}, put{"\xE2", "z", 1}, put{"\x82", "", 2})
}

// What is put back is read again, ahead of the known bytes.
func TestPutBack(t *testing.T) { // P15.2
	goes(t, "ab > | c ; cd > | e ; ef > g", "c", put{"ab", "", 0}, put{"d", "", 0}, put{"f", "g", 0}, put{"abdab", "e", 0}, put{"x", "cx", 0}, put{"ab", "", 0})
	goes(t, "a > | bc ; b > | d ; dcx > y", "dc", put{"a", "", 0}, put{"x", "y", 0}, put{"a", "", 0}, put{"y", "dcy", 0}, put{"a", "", 0})
	goes(t, "a > x | yz ; zq > w", "z", put{"a", "xy", 0}, put{"q", "w", 0}, put{"aa", "xyzxy", 0}, put{"a", "zxy", 0})
	// Units of both sides of the border stand at a key and at a post.
	goes(t, "a > | bb ; bbc > x ; bb } d > y", "b", put{"a", "", 0}, put{"c", "x", 0}, put{"a", "", 0}, put{"d", "yd", 0}, put{"ae", "bbe", 0}, put{"ba", "b", 0}, put{"c", "x", 0}, put{"b", "", 1})
	// Of what is put back the first ones go ahead of what was put back earlier.
	goes(t, "a > | bc ; b > | de ; dec > x ; decf > y", "x", put{"a", "", 0}, put{"f", "y", 0}, put{"ag", "xg", 0}, put{"a", "", 0})
	goes(t, "[ac] > | @1:[éü] b ; éb > x ; übc > y", "", put{"a", "x", 0}, put{"c", "", 0}, put{"c", "y", 0}, put{"ca", "übx", 0}, put{"c", "", 0}, put{"a", "übx", 0})
}

// What was put back stays units, also where strays and the bytes that come would make a rune.
func TestPutBackStaysUnits(t *testing.T) { // P15.2
	const rules = `a > | \b{E2} \b{82} ; € > E`
	goes(t, rules, "", put{"a", "\xE2\x82", 0}, put{"\xAC", "\xAC", 0}, put{"a\xAC", "\xE2\x82\xAC", 0}, put{"\xE2\x82", "", 2}, put{"\xAC", "E", 0})
	goes(t, rules, "\xE2", put{"a\xE2", "\xE2\x82", 1}, put{"\x82\xAC", "E", 0}, put{"\xE2\x82a", "\xE2\x82\xE2\x82", 0}, put{"\xE2", "", 1})
	const row = `a > | \b{E2} \b{82} ; \b{E2} \b{82} \b{AC} > S ; € > E`
	goes(t, row, "\xE2\x82", put{"a", "", 0}, put{"\xAC", "S", 0}, put{"\xE2\x82\xAC", "E", 0}, put{"a", "", 0}, put{"b", "\xE2\x82b", 0}, put{"a\xE2", "\xE2\x82", 1}, put{"\x82\xAC", "E", 0}, put{"a", "", 0})
	const one = `a > | \b{C3} ; \b{C3} \b{A9} > S ; é > E`
	goes(t, one, "\xC3", put{"a", "", 0}, put{"\xA9", "S", 0}, put{"a\xC3", "\xC3", 1}, put{"\xA9", "E", 0}, put{"aa", "\xC3", 0})
	// Runes that are laid as strays, side by side, are not read again.
	goes(t, `[ab] > @1:[\b{C3}\b{A9}] ; é > E`, "", put{"b", "\xC3", 0}, put{"a", "\xA9", 0}, put{"ba\xC3", "é", 1}, put{"\xA9", "E", 0})
}

func TestTheEndIsWanted(t *testing.T) { // P15.2, P15.3
	goes(t, "a } $ > x", "x", put{"a", "", 1}, put{"a", "a", 1}, put{"b", "ab", 0}, put{"ba", "b", 1})
	goes(t, "a } b $ > x", "xb", put{"a", "", 1}, put{"b", "", 2}, put{"a", "ab", 1}, put{"b", "", 2}, put{"", "", 2})
	goes(t, "a } $ > x ; a > y", "x", put{"aa", "y", 1}, put{"\xE2", "y", 1}, put{"a", "\xE2", 1})
	goes(t, "b } $ > | a ; a } $ > x", "x", put{"b", "", 1})
	goes(t, "a } $ > ; b } $ > | cc", "cc", put{"ab", "a", 1})
	goes(t, ". } $ > x", "x", put{"\xE2", "", 1}, put{"\x82\xAC", "", 3}, put{"a", "€", 1})
	goes(t, ". } $ > x", "\xE2x", put{"\xE2", "", 1}, put{"\x82", "", 2})
	goes(t, ". } .. $ > x", "xab", put{"€", "", 3}, put{"a", "", 4}, put{"b", "", 5})
}

func TestTheBeginningIsWanted(t *testing.T) { // P15.2
	goes(t, "^ { a > A", "", put{"", "", 0}, put{"a", "A", 0}, put{"a", "a", 0})
	goes(t, "^ { a > A", "", put{"ba", "ba", 0}, put{"a", "a", 0})
	goes(t, "^ { ab > A", "", put{"a", "", 1}, put{"b", "A", 0}, put{"a", "a", 0}, put{"b", "b", 0})
	// Where nothing was laid, it is the beginning still.
	goes(t, "b > ; ^ { a > A", "", put{"b", "", 0}, put{"b", "", 0}, put{"ba", "A", 0}, put{"ba", "a", 0})
	goes(t, "^ b { a > A", "", put{"b", "b", 0}, put{"a", "A", 0}, put{"ba", "ba", 0})
	goes(t, "^ bbbbbbbb { a > A", "", put{"bbbb", "bbbb", 0}, put{"bbbb", "bbbb", 0}, put{"a", "A", 0})
	goes(t, "^ bbbbbbbb { a > A", "", put{"bbbbb", "bbbbb", 0}, put{"bbbb", "bbbb", 0}, put{"a", "a", 0})
	goes(t, "^ bbbbbbbb { a > A", "", put{strings.Repeat("b", 100), strings.Repeat("b", 100), 0}, put{"a", "a", 0})
	goes(t, "^ bbbbbbb { a > A", "", put{"bbbbbbb", "bbbbbbb", 0}, put{"a", "A", 0})
}

// Rules see what was written long before, as far as their antes reach.
func TestWhatWasWritten(t *testing.T) { // P15.2
	goes(t, "x { a > x ; a > y", "", put{"a", "y", 0}, put{"x", "x", 0}, put{"a", "x", 0}, put{"a", "x", 0}, put{"ba", "by", 0})
	goes(t, "xyz { a > A ; b > xyz", "", put{"b", "xyz", 0}, put{"a", "A", 0}, put{"xy", "xy", 0}, put{"z", "z", 0}, put{"", "", 0}, put{"a", "A", 0}, put{"xya", "xya", 0})
	goes(t, "bcdefghi { a > A", "", put{"bcde", "bcde", 0}, put{"fghi", "fghi", 0}, put{"a", "A", 0}, put{"zbcdefghia", "zbcdefghiA", 0}, put{"cdefghia", "cdefghia", 0})
	goes(t, "........ { a > A", "", put{"aaaa", "aaaa", 0}, put{"aaaaaaaa", "aaaaAAAA", 0})
	goes(t, `\b{E2} \b{82} { \b{AC} > x`, "", put{"\xE2\x82", "", 2}, put{"b", "\xE2\x82b", 0}, put{"\xAC", "\xAC", 0})
	goes(t, `a > \b{E2} \b{82} ; \b{E2} \b{82} { \b{AC} > x`, "", put{"a", "\xE2\x82", 0}, put{"\xAC", "x", 0}, put{"aa\xAC", "\xE2\x82\xE2\x82x", 0})
	// Nothing that was only put back is ahead of anything.
	goes(t, "a > | b ; b { c > x ; bc > y", "b", put{"a", "", 0}, put{"c", "y", 0}, put{"c", "c", 0}, put{"b", "", 1}, put{"b", "b", 1}, put{"d", "bd", 0}, put{"b", "", 1})
}

func TestPieces(t *testing.T) { // P15.2: of all kinds
	goes(t, "[a-c][0-9] > x @2 @1:[α-γ]", "", put{"b", "", 1}, put{"7", "x7β", 0}, put{"c0a", "x0γ", 1}, put{"a9", "ax9α", 0})
	goes(t, "[a-c] > @1:[x-z] | ! ; ! > ?", "", put{"abcd", "x?y?z?d", 0})
	goes(t, "[^] > ; . > x", "", put{"aé€\U00010000\x80\xE2", "x", 1}, put{"\x82", "", 2}, put{"\xAC", "", 0})
	goes(t, "[^] > @1 @1", "", put{"a\xE2", "aa", 1}, put{"\x82\xACb", "€€bb", 0})
	goes(t, `[\b{80}-\b{FF}] > @1 @1`, "\xE2\xE2\x82\x82", put{"\x80€", "\x80\x80€", 0}, put{"\xE2\x82", "", 2})
}

func TestMoreThanAText(t *testing.T) { // P15.2: MaxText is not asked
	for _, x := range []struct{ text, of, to, end string }{
		{"", "aé€\U00010000\x80", "aé€\U00010000\x80", "c"},
		{"a > x ; ab > y", "abac", "yxc", "c"},
		{"a > | bb ; b > cd", "a", "cdcd", "c"},
		{"xé { é > y", "xéé", "xéy", "c"},
		{". > ", "aé", "", ""},
	} {
		for _, n := range []int{16384, 16385, 40000} {
			n = n/len(x.of) + 1
			from, to := strings.Repeat(x.of, n), strings.Repeat(x.to, n)
			s := begin(t, read(t, x.text))
			puts(t, s, put{from + "c", to + x.end, 0}, put{from + "c", to + x.end, 0})
			closes(t, s, "")
			// And a byte at a time.
			s = begin(t, read(t, x.text))
			var told []byte
			for i := range len(from) {
				told = append(told, s.Put([]byte{from[i]})...)
			}
			if told = append(told, s.Close()...); string(told) != to {
				t.Errorf("%s: %.50q.., %d bytes, not %d", x.text, told, len(told), len(to))
			}
		}
	}
}
