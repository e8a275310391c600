package need_test

import (
	"fmt"
	"math"
	"slices"
	"strings"
	"testing"

	"respell/api"
	"respell/names"
	"respell/need"
	"respell/parse"
	"respell/rule"
	"respell/utf"
	"respell/weigh"
)

// How passes and places are written in these tests: as a rules' text has them, or by hand where that can't.

// read is the pass of a rules' text; the last ; may be left out.
func read(t *testing.T, text string) api.Pass {
	t.Helper()
	if strings.TrimSpace(text) == "" {
		return api.Pass{}
	}
	lines, fault := parse.Parse(text + " ;")
	if fault.Code != api.OK {
		t.Fatalf("%s: %v", text, fault)
	}
	passes, line, e := names.Passes(lines)
	if e != api.OK || len(passes) != 1 {
		t.Fatalf("%s: %d passes, %d, %d", text, len(passes), line, e)
	}
	return passes[0]
}

func of(n ...int) api.Set {
	var s api.Set
	for i := 0; i+1 < len(n); i += 2 {
		s = append(s, api.Range{Lo: n[i], Hi: n[i+1]})
	}
	return s
}

func row(l ...api.Set) []api.Set { return l }

func rules(l ...api.Rule) api.Pass { return api.Pass{Rules: l} }

func pieces(l ...api.Piece) []api.Piece { return l }

func unit(u int) api.Piece               { return api.Piece{Kind: api.PUnit, Unit: u} }
func again(k int) api.Piece              { return api.Piece{Kind: api.PCopy, Key: k} }
func paired(k int, to api.Set) api.Piece { return api.Piece{Kind: api.PPair, Key: k, To: to} }

const (
	maxRune  = 0x10FFFF
	firstRaw = 0x110080
	lastRaw  = 0x1100FF
)

var (
	a   = of('a', 'a')
	abc = of('a', 'c')
	all = of(0, 0xD7FF, 0xE000, maxRune, firstRaw, lastRaw)
)

// bare is a unit for each byte, a stray for each one from 80 on: as rules put them back, whatever the bytes would make.
func bare(s string) []int {
	var l []int
	for _, b := range []byte(s) {
		u := int(b)
		if b >= 0x80 {
			u += 0x110000
		}
		l = append(l, u)
	}
	return l
}

// brief is a pass as it is told where a test fails.
func brief(p api.Pass) string { return fmt.Sprintf("%.300s", fmt.Sprint(p)) }

// open is what is asked for where a step is not decided.
const open = -2

// asks holds both calls against what they must tell: a rule, -1, or open.
func asks(t *testing.T, p api.Pass, done, back []int, known string, want int) {
	t.Helper()
	n, is := need.Decide(p, done, back, known)
	if want == open && (n != 0 || is) || want != open && (n != want || !is) {
		t.Errorf("%s, done %v, back %v, %q: Decide: %d %v; want %d", brief(p), done, back, known, n, is, want)
	}
	s, doubt := need.Doubt(p, done, back, known)
	if doubt != (want == open) || !doubt && s != "" {
		t.Errorf("%s, done %v, back %v, %q: Doubt: %q %v; want %d", brief(p), done, back, known, s, doubt, want)
	}
	if doubt {
		doubts(t, p, done, back, known, s)
	}
}

// doubts holds a doubt against the rules themselves.
func doubts(t *testing.T, p api.Pass, done, back []int, known, s string) {
	t.Helper()
	if len(s) > 128 {
		t.Errorf("%s, done %v, back %v, %q: a doubt of %d bytes", brief(p), done, back, known, len(s))
	}
	if stepByWords(p, done, back, known+s).same(stepByWords(p, done, back, known)) {
		t.Errorf("%s, done %v, back %v, %q: with %q the step is the same", brief(p), done, back, known, s)
	}
}

// place is where a pass stands, and what is asked for; done and back are bare.
type place struct {
	done, back, known string
	want              int
}

// stands holds a pass against places.
func stands(t *testing.T, text string, l ...place) {
	t.Helper()
	p := read(t, text)
	for _, x := range l {
		asks(t, p, bare(x.done), bare(x.back), x.known, x.want)
	}
}

// knows holds a pass, at its beginning, against known bytes.
func knows(t *testing.T, text string, want int, known ...string) {
	t.Helper()
	for _, s := range known {
		stands(t, text, place{"", "", s, want})
	}
}

func TestExamples(t *testing.T) { // P14.1, P14.2
	for _, x := range []struct {
		text, back, known string
		want              int
		doubt             string // one that the chapter names
	}{
		{"a > x ; ab > y", "", "a", open, "b"},
		{"a > x ; ab > y", "", "ac", 0, ""},
		{"a > x ; ab > y", "", "b", -1, ""},
		{"a > x ; ab > y", "", "", open, "a"},
		{"a > x ; ab > y", "a", "", open, "b"},
		{"", "", "\xE2", open, "\x82\xAC"},
		{"", "", "\xE2\x82a", -1, ""},
		{"a } . > x", "", "a\xE2", 0, ""},
		{"a } [€] > x", "", "a\xE2", open, "\x82\xAC"},
		{"a } é > x", "", "a\xE2", -1, ""},
		{`a \b{E2} \b{82} \b{AC} > x`, "", "a", -1, ""},
		{`a \b{E2} \b{82} \b{AC} > x`, "a\xE2\x82", "", open, "\xAC"},
		{"a } $ > x", "", "a", open, "anything"},
	} {
		stands(t, x.text, place{"", x.back, x.known, x.want})
		if x.want == open {
			doubts(t, read(t, x.text), nil, bare(x.back), x.known, x.doubt)
		}
	}
}

func TestRefusedPasses(t *testing.T) { // P14.1, P14.2
	many := slices.Repeat([]api.Rule{{Key: row(a)}}, 257)
	for n, p := range []api.Pass{
		{Rules: many},
		rules(api.Rule{}),
		rules(api.Rule{Key: row(a)}, api.Rule{Key: row(a, nil)}),
		rules(api.Rule{Key: slices.Repeat(row(a), 9)}),
		rules(api.Rule{Key: row(a), Post: slices.Repeat(row(a), 9)}),
		rules(api.Rule{Key: row(a), Ante: row(of('b', 'a'))}),
		rules(api.Rule{Key: row(a), Cursor: 1}),
		rules(api.Rule{Key: row(a), Cursor: -1}),
		rules(api.Rule{Key: row(a), Result: pieces(again(1))}),
		rules(api.Rule{Key: row(a), Result: pieces(unit(0xD800))}),
		rules(api.Rule{Key: row(a), Result: pieces(paired(0, abc))}),
	} {
		if _, e := rule.All(p); e == api.OK {
			t.Fatalf("%d may be", n)
		}
		for _, known := range []string{"", "a", "b", "aaaa", "\xE2", "a\xE2"} {
			for _, back := range [][]int{nil, {'a'}, {'b', 'a'}} {
				if rule, is := need.Decide(p, nil, back, known); rule != 0 || is {
					t.Errorf("%d, %q: %d %v", n, known, rule, is)
				}
				if s, is := need.Doubt(p, nil, back, known); s != "" || is {
					t.Errorf("%d, %q: %q %v", n, known, s, is)
				}
			}
		}
	}
	asks(t, api.Pass{Rules: many[1:]}, nil, nil, "a", 0)
	asks(t, api.Pass{Rules: many[1:]}, nil, nil, "b", -1)
}

// Whether a pass ends is not asked here.
func TestPassesWithoutEnd(t *testing.T) { // P14.1, P14.2
	for _, text := range []string{"ab > | ba", "a > | a", "a > | b ; b > | a"} {
		if _, e := weigh.Check(read(t, text)); e == api.OK {
			t.Fatalf("%s ends", text)
		}
	}
	knows(t, "ab > | ba", 0, "ab", "abc")
	knows(t, "ab > | ba", open, "a")
	knows(t, "ab > | ba", -1, "b", "ac")
	knows(t, "a > | b ; b > | a", 1, "b", "ba")
}

func TestNoRule(t *testing.T) { // P14.1, P14.2, P14.5
	knows(t, "", open, "", "\xC3", "\xE2", "\xE2\x82", "\xF0", "\xF0\x90", "\xF0\x90\x80")
	knows(t, "", -1, "a", "\x00", "é", "€", "\U0010FFFF", "a\xE2", "\x80", "\xBF", "\xFF", "\xE2a", "\xE2\x82a", "\xC3\xC3", "\x80\xC3")
	stands(t, "", place{"", "a", "", -1}, place{"", "\xE2", "", -1}, place{"", "\xE2", "\x82", -1}, place{"", "\xE2", "\xE2", -1}, place{"a\xE2", "", "\x82", -1}, place{"a\xE2", "", "", open}, place{"a", "", "\xE2", open})
}

func TestNothingLeft(t *testing.T) { // P14.5
	m := made(301)
	for range 300 {
		p, done := m.pass(5), m.numbers(3)
		asks(t, p, done, nil, "", open)
		for _, u := range crowd {
			doubts(t, p, done, nil, "", utf.Put(u))
		}
	}
}

// All beginnings of one byte, of two, and some of three and four, held against the library's own.
func TestBeginningsOfRunes(t *testing.T) { // P14.1, P14.2
	check := func(s string) {
		want := -1
		if begins(s) {
			want = open
		}
		knows(t, "", want, s)
		stands(t, "☃ > x", place{"", "", s, want}, place{"", "b", s, -1})
	}
	for i := range 256 {
		check(string([]byte{byte(i)}))
		for k := range 256 {
			check(string([]byte{byte(i), byte(k)}))
		}
	}
	for _, i := range []byte{0xC3, 0xE0, 0xE2, 0xED, 0xEF, 0xF0, 0xF3, 0xF4, 0xF5} {
		for _, k := range []byte{0x7F, 0x80, 0x8F, 0x90, 0x9F, 0xA0, 0xBF, 0xC0} {
			for l := range 256 {
				check(string([]byte{i, k, byte(l)}))
				check(string([]byte{i, k, 0x80, byte(l)}))
			}
		}
	}
}

// What open bytes become is in a set, is not, may be, must be.
func TestOpenBytesBehindTheKey(t *testing.T) { // P14.1, P14.2
	knows(t, "a } € > x", open, "a\xE2", "a\xE2\x82")
	knows(t, "a } € > x", -1, "a\xE1", "a\xE2\x81", "a\xE2\x83", "a\xE2\x82\xAD", "a\xE2b", "a\x82", "a\xF0", "a\xF0\x90", "a\xF0\x90\x80", "a\xC3")
	knows(t, "a } € > x", 0, "a€", "a€\xE2")
	knows(t, `a } \b{E2} > x`, open, "a", "a\xE2", "a\xE2\x82")
	knows(t, `a } \b{E2} > x`, 0, "a\xE2a", "a\xE2\x82a", "a\xE2\xE2", "a\xE2\x82\xE2")
	knows(t, `a } \b{E2} > x`, -1, "a€", "a\xE1", "a\xC3")
	knows(t, `a } [\b{E2} \x{2000}-\x{2FFF}] > x`, 0, "a\xE2", "a\xE2\x82", "a\xE2\x82\xAC", "a\xE2a")
	knows(t, `a } [\b{E2} \x{2001}-\x{2FFF}] > x`, open, "a\xE2", "a\xE2\x80")
	knows(t, `a } [\b{E2} \x{2001}-\x{2FFF}] > x`, 0, "a\xE2\x81", "a\xE2\xBF")
	knows(t, `a } [\b{E2} \x{2000}-\x{2FFE}] > x`, open, "a\xE2", "a\xE2\xBF")
	knows(t, `a } [\b{E2} \x{2000}-\x{2FFE}] > x`, 0, "a\xE2\x80", "a\xE2\xBE")
	knows(t, `a } [\b{E2} \x{2000}-\x{24FF} \x{2501}-\x{2FFF}] > x`, open, "a\xE2", "a\xE2\x94")
	knows(t, `a } [\b{E2} \x{2000}-\x{24FF} \x{2501}-\x{2FFF}] > x`, 0, "a\xE2\x93", "a\xE2\x95")
	knows(t, `a } [\x{2000}-\x{2FFF}] > x`, open, "a\xE2", "a\xE2\x82")
	knows(t, `a } [\b{F0} \x{10000}-\x{3FFFF}] > x`, 0, "a\xF0", "a\xF0\x90", "a\xF0\x90\x80", "a\xF0\x80")
	knows(t, `a } [\b{F0} \x{10000}-\x{3FFFE}] > x`, open, "a\xF0", "a\xF0\xBF", "a\xF0\xBF\xBF")
	knows(t, `a } [\b{ED} \x{D000}-\x{D7FF}] > x`, 0, "a\xED", "a\xED\x80", "a\xED\xA0")
	knows(t, `a } [\b{F4} \x{100000}-\x{10FFFF}] > x`, 0, "a\xF4", "a\xF4\x80", "a\xF4\x90")
	knows(t, `a } [\b{C3} à-ÿ] > x`, open, "a\xC3")
	knows(t, `a } [\b{C3} À-ÿ] > x`, 0, "a\xC3")
	knows(t, "a } . > x", 0, "a\xE2", "a\xF0\x90\x80", "ab", "a\x80")
	knows(t, "a } [^] > x", open, "a\xE2", "a\xF0\x90\x80")
	knows(t, "a } [^] > x", -1, "a\x80", "a\xE2\xE2")
	knows(t, "a } .. > x", open, "a\xE2", "a\xE2\x82", "a\xF0\x90\x80", "ab")
	knows(t, "a } .. > x", 0, "ab\xE2", "a\xE2a", "a\xE2\xE2", "a\x80\x80")
	knows(t, "a } ... > x", open, "a\xF0\x90\x80")
	knows(t, `a } . \b{82} > x`, open, "a\xE2\x82", "a\xE2")
	knows(t, `a } . \b{82} > x`, 0, "a\xE2\x82a", "a\xC0\x82", "a\x80\x82")
	knows(t, `a } . \b{82} > x`, open, "a\xC3\x82")
	knows(t, `a } . \b{82} > x`, -1, "a\xC3\x82b", "ab\x83")
}

func TestOpenBytesWithinTheKey(t *testing.T) { // P14.1, P14.2: what is taken is another unit
	knows(t, ". > x", open, "", "\xE2", "\xE2\x82", "\xF0\x90\x80")
	knows(t, ". > x", 0, "a", "\x80", "\xE2a", "\xE2\x82a", "\xF0\x80", "€\xE2")
	knows(t, "a. > x", open, "a", "a\xE2")
	knows(t, "a. > x", 0, "ab\xE2", "a\xFF")
	knows(t, `a [\b{E2} \x{2000}-\x{2FFF}] > x`, open, "a\xE2", "a\xE2\x82")
	knows(t, `a [\b{E2} \x{2000}-\x{2FFF}] > x`, 0, "a\xE2a", "a€")
	knows(t, `\b{E2} > x`, open, "\xE2", "\xE2\x82")
	knows(t, `\b{E2} \b{82} > x`, open, "\xE2", "\xE2\x82")
	knows(t, `\b{E2} \b{82} > x`, 0, "\xE2\x82a", "\xE2\x82\xC3")
	knows(t, "€ > x", open, "\xE2", "\xE2\x82", "\xE1")
	knows(t, "a€ > x", -1, "a\xE1")
	knows(t, "a€ > x", open, "a\xE2")
	stands(t, ". > x", place{"", "a", "\xE2", 0}, place{"", "\xE2", "\x82", 0}, place{"", "\xE2", "", 0})
	stands(t, ".. > x", place{"", "a", "\xE2", open}, place{"", "ab", "\xE2", 0}, place{"", "a", "\x82", 0}, place{"", "a", "", open})
}

func TestTheEndIsWanted(t *testing.T) { // P14.1, P14.2
	knows(t, "a } $ > x", open, "a")
	knows(t, "a } $ > x", -1, "ab", "a\xE2", "a\x80", "b")
	knows(t, "a } b $ > x", open, "a", "ab")
	knows(t, "a } b $ > x", -1, "ac", "abc", "ab\xE2", "a\xE2")
	knows(t, "a } $ > x ; a > y", open, "a")
	knows(t, "a } $ > x ; a > y", 1, "ab", "a\xE2")
	knows(t, "a > y ; a } $ > x", 0, "a", "ab")
	knows(t, "a } . $ > x", open, "a", "ab", "a\xE2", "a\xE2\x82")
	knows(t, "a } . $ > x", -1, "ab\xE2", "a\xE2b", "abc")
	knows(t, "a } .. $ > x", open, "a", "ab", "a\xE2", "a\xE2\x82", "a\xF0\x90\x80", "ab\xE2\x82")
	knows(t, "a } .. $ > x", -1, "ab\xE2\x82c", "abcd", "abc\xE2")
	knows(t, ". } $ > x", open, "", "a", "\xE2")
	knows(t, ". } $ > x", -1, "ab", "\x80\xE2", "\xE2a")
	knows(t, "^ { . } $ > x", open, "a")
	stands(t, "a } $ > x", place{"", "a", "", open}, place{"", "a", "b", -1}, place{"", "ab", "", -1}, place{"", "a", "\xE2", -1})
	stands(t, "^ { . } $ > x", place{"b", "", "a", -1}, place{"b", "a", "", -1}, place{"", "a", "", open})
}

func TestWhatIsDone(t *testing.T) { // P14.1, P14.2
	stands(t, "b { ac > x ; a > y", place{"b", "", "a", open}, place{"bb", "", "a", open}, place{"", "", "a", 1}, place{"c", "", "a", 1}, place{"bc", "", "a", 1}, place{"b", "", "ac", 0}, place{"b", "", "ad", 1})
	stands(t, "^ { ac > x ; a > y", place{"", "", "a", open}, place{"b", "", "a", 1})
	stands(t, "^ b { ac > x ; a > y", place{"b", "", "a", open}, place{"", "", "a", 1}, place{"bb", "", "a", 1})
	stands(t, ". b { ac > x ; a > y", place{"b", "", "a", 1}, place{"\xE2b", "", "a", open})
	stands(t, `\b{E2} \b{82} { \b{AC} > x`, place{"\xE2\x82", "", "\xAC", 0}, place{"\xE2\x82", "\xAC", "", 0}, place{"\x82", "", "\xAC", -1})
	stands(t, `\b{E2} { \b{82} \b{AC} > x`, place{"\xE2", "", "\x82", open}, place{"\xE2", "", "\x82\xAC", 0}, place{"", "", "\x82", -1})
}

func TestRulesThatRankAhead(t *testing.T) { // P14.1, P14.2
	knows(t, "a > x ; ab > y ; abc > z", open, "a", "ab")
	knows(t, "a > x ; ab > y ; abc > z", 0, "ac", "a\xE2")
	knows(t, "a > x ; ab > y ; abc > z", 1, "abd", "ab\xE2")
	knows(t, "a > x ; ab > y ; abc > z", 2, "abc")
	knows(t, "a } b > x ; a > y", open, "a")
	knows(t, "a } b > x ; a > y", 0, "ab")
	knows(t, "a } b > x ; a > y", 1, "ac")
	knows(t, "a > y ; a } b > x", 0, "a", "ab")
	knows(t, "ab > x ; a } bc > y", 0, "ab", "abc")
	knows(t, "ab } d > x ; ab > y ; abc > z", open, "ab")
	knows(t, "ab } d > x ; ab > y ; abc > z", 1, "abe")
	knows(t, "abcd > x ; abce > y", open, "a", "ab", "abc")
	knows(t, "abcd > x ; abce > y", -1, "abcf", "abd", "b")
	// A rule that is sure to fit stands ahead of one that may, and does not hide one that ranks ahead of it.
	knows(t, ".. > x ; a } bc > y", 0, "ab", "b\x80")
	knows(t, "a } bc > y ; . > x", open, "a", "ab")
	knows(t, "a } bc > y ; . > x", 1, "b", "ac", "abd")
	// Whatever comes one of two is next, or the one that ranks behind the step.
	knows(t, "a } [a-m] > x ; a } [^ a-m] > y ; a } [\\b{80}-\\b{FF}] > z ; a } $ > w", open, "a")
	knows(t, "a } [\\x{2000}-\\x{2FFF}] > x ; a > y", 1, "a\xE1")
	knows(t, "a } [\\x{2000}-\\x{2FFF}] > x ; a > y", open, "a\xE2")
}

// Rows of strays that no text has, as together they are a rune.
func TestRowsThatNoTextHas(t *testing.T) { // P14.1, P14.2
	knows(t, `a \b{C3} \b{A9} > x`, -1, "a", "a\xC3")
	knows(t, `a \b{C3} [\b{A9} é] > x`, open, "a", "a\xC3")
	knows(t, `a \b{C3} [\b{80}-\b{BF}] > x`, -1, "a", "a\xC3")
	knows(t, `a \b{C3} [\b{80}-\b{C0}] > x`, open, "a", "a\xC3")
	knows(t, `a \b{E2} \b{82} \b{AC} > x`, -1, "a", "a\xE2", "a\xE2\x82")
	knows(t, `a \b{E2} \b{82} [\b{AC} b] > x`, open, "a", "a\xE2", "a\xE2\x82")
	knows(t, `a \b{E2} [\b{82} \b{C3}] \b{AC} > x`, -1, "a", "a\xE2")
	knows(t, `a \b{E2} [\b{82} \b{E3}] \b{AC} > x`, open, "a", "a\xE2")
	knows(t, `a \b{E2} [\b{82} \b{E3}] \b{AC} > x`, -1, "a\xE2\x82")
	knows(t, `a [\b{E2} \b{C3}] \b{82} \b{AC} > x`, -1, "a")
	knows(t, `a [\b{E2} \b{E0}] \b{82} \b{AC} > x`, open, "a")
	knows(t, `a [\b{ED} \b{E2}] \b{A0} \b{80} > x`, open, "a")
	knows(t, `a [\b{E0} \b{ED} \b{C3}] [\b{9F} \b{A0}] \b{80} > x`, open, "a")
	knows(t, `a [\b{C3} \b{DF}] [\b{9F} \b{A0}] > x`, -1, "a")
	knows(t, `a \b{F0} \b{90} \b{80} \b{80} > x`, -1, "a", "a\xF0", "a\xF0\x90", "a\xF0\x90\x80")
	knows(t, `a \b{F0} \b{8F} \b{80} \b{80} > x`, open, "a", "a\xF0\x8F")
	knows(t, `a \b{F4} \b{90} \b{80} \b{80} > x`, open, "a", "a\xF4\x90")
	knows(t, `a \b{F4} [\b{8F} \b{90}] \b{80} \b{80} > x`, open, "a", "a\xF4")
	knows(t, `a \b{F4} [\b{8F} \b{90}] \b{80} \b{80} > x`, -1, "a\xF4\x8F")
	knows(t, `a \b{F1} \b{E2} \b{82} \b{AC} > x`, -1, "a", "a\xF1")
	knows(t, `a \b{F1} \b{82} \b{82} \b{AC} \b{80} > x`, -1, "a")
	knows(t, `a \b{F1} \b{82} \b{82} } \b{AC} > x`, -1, "a")
	knows(t, `a } \b{F1} \b{82} \b{82} \b{AC} > x`, -1, "a")
	knows(t, `a \b{C3} \b{C3} \b{C3} > x`, open, "a", "a\xC3", "a\xC3\xC3")
	knows(t, `a [\b{E2} \b{F1} \b{C3}] [\b{82} \b{E2}] [\b{82} \b{AC}] \b{AC} > x`, -1, "a")
	knows(t, `a [\b{E2} \b{F1} \b{C3}] [\b{82} \b{E2}] [\b{82} \b{AC}] b > x`, open, "a")
	knows(t, `a \b{F1} [\b{80} \b{E0}] \b{90} \b{80} > x`, open, "a", "a\xF1")
	knows(t, `a \b{F1} [\b{80} \b{E1}] \b{90} \b{80} > x`, -1, "a", "a\xF1")
	knows(t, `[\b{E2} \b{C3}] \b{82} \b{AC} > x`, open, "")
	stands(t, `[\b{E2} \b{C3}] \b{82} \b{AC} > x`, place{"", "\xE2", "", open}, place{"", "\xC3", "\x82", open}, place{"", "\xE2\x82", "\xAC", 0}, place{"", "\xE2\x82", "\xAD", -1})
}

// What was put back are units, and stays so.
func TestBordersOfWhatIsKnown(t *testing.T) { // P14.1, P14.2
	text := `a \b{E2} \b{82} \b{AC} > x`
	stands(t, text,
		place{"", "a", "", -1}, place{"", "a", "\xE2", -1}, place{"", "a", "\xE2\x82", -1}, place{"", "a", "€", -1},
		place{"", "a\xE2", "", open}, place{"", "a\xE2", "\x82", open}, place{"", "a\xE2", "\x82\xAC", 0}, place{"", "a\xE2", "\x82b", -1}, place{"", "a\xE2", "b", -1},
		place{"", "a\xE2\x82", "", open}, place{"", "a\xE2\x82", "\xAC", 0}, place{"", "a\xE2\x82\xAC", "", 0}, place{"", "a\xE2\x82", "\xAC\xE2", 0}, place{"", "a\xE2\x82", "\xE2", -1},
	)
	stands(t, `a \b{E2} \b{C3} \b{A9} > x`, place{"", "a\xE2", "", -1}, place{"", "a\xE2", "\xC3", -1}, place{"", "a\xE2\xC3", "", open}, place{"", "a\xE2\xC3", "\xA9", 0})
	stands(t, `\b{E2} € > x`, place{"", "\xE2", "", open}, place{"", "\xE2", "\xE2", open}, place{"", "\xE2", "\xE2\x82", open}, place{"", "\xE2", "\x82", -1}, place{"", "", "\xE2", open}, place{"", "", "\xE2\xE2", open}, place{"", "", "\xE2\x82\xE2", -1})
	stands(t, `\b{C3} [\b{A9} \b{C3}] \b{A9} > x`, place{"", "", "", open}, place{"", "\xC3", "", open}, place{"", "\xC3", "\xA9", open}, place{"", "\xC3", "\xC3", -1}, place{"", "\xC3\xC3", "", open}, place{"", "\xC3", "\xA9b", -1})
	stands(t, `\b{C3} \b{C3} \b{A9} > x`, place{"", "\xC3", "", -1}, place{"", "\xC3", "\xC3", -1}, place{"", "\xC3\xC3", "", open})
	stands(t, `a } \b{80} > x`, place{"", "", "a", open}, place{"", "a", "", open}, place{"\xC3", "a", "\x80", 0})
	// Bytes of runes that are known do not part, and those known stay open only at the end.
	stands(t, `a } \b{82} > x`, place{"", "a", "\xE2", -1}, place{"", "a", "€", -1}, place{"", "a", "\x82", 0})
}

func TestKeysThatReachOver(t *testing.T) { // P14.1, P14.2: by none, one, several places
	knows(t, "abcd } efgh > x", open, "", "a", "ab", "abc", "abcd", "abcde", "abcdef", "abcdefg")
	knows(t, "abcd } efgh > x", 0, "abcdefgh", "abcdefgh\xE2")
	knows(t, "abcd } efgh > x", -1, "x", "ax", "abcdx", "abcdefgx", "abcdefg\x80", "abcdefg\xE2")
	stands(t, "abcd } efgh > x", place{"", "abcd", "", open}, place{"", "abcd", "ef", open}, place{"", "abcdefg", "", open}, place{"", "abcdefgh", "", 0}, place{"", "abcdefg", "h", 0}, place{"", "abcdefg", "\xE2", -1}, place{"", "abc", "x", -1})
	knows(t, "........ } ........ > x", open, "", "a", strings.Repeat("a", 15), strings.Repeat("a", 14)+"\xE2")
	knows(t, "........ } ........ > x", 0, strings.Repeat("a", 16), strings.Repeat("a", 15)+"\xE2", strings.Repeat("€", 16))
	knows(t, "........ } ........ $ > x", open, strings.Repeat("a", 16), strings.Repeat("a", 15)+"\xE2", strings.Repeat("a", 14)+"\xE2\x82")
	knows(t, "........ } ........ $ > x", -1, strings.Repeat("a", 17), strings.Repeat("a", 16)+"\xE2", strings.Repeat("a", 15)+"\xE2a")
}

func TestAnyNumbers(t *testing.T) { // P14.1, P14.2
	for _, u := range noUnits {
		for _, text := range []string{"", ". > x", "a > x ; ab > y", ". { a > x", ". } . > x", ". } $ > x"} {
			p := read(t, text)
			asks(t, p, nil, []int{u}, "", -1)
			asks(t, p, nil, []int{u}, "a", -1)
			asks(t, p, nil, []int{u}, "\xE2", -1)
			asks(t, p, nil, []int{u, 'a'}, "", -1)
			asks(t, p, []int{u}, nil, "", open)
		}
		p := read(t, "a } b > x ; b { ac > y ; . { ad > z ; a > v")
		asks(t, p, nil, []int{'a', u}, "", 3)
		asks(t, p, nil, []int{'a', u}, "b", 3)
		asks(t, p, []int{u}, nil, "ab", 0)
		asks(t, p, []int{u}, nil, "ac", 3)
		asks(t, p, []int{u}, nil, "ad", 3)
		asks(t, p, []int{u}, nil, "a", open)
		asks(t, p, []int{u, 'b'}, nil, "a", open)
		asks(t, p, []int{u, 'b'}, nil, "ac", 1)
		asks(t, read(t, "b { ac > y ; a > v"), []int{'b', u}, nil, "a", 1)
		asks(t, read(t, "^ { ac > y ; a > v"), []int{u}, nil, "a", 1)
	}
}

// noUnits is numbers that no text has as a unit.
var noUnits = []int{math.MinInt, -1, 0xD800, 0xDFFF, 0x110000, 0x11007F, 0x110100, math.MaxInt}

// Rules that want as much as they may, of four bytes each.
func TestLongDoubts(t *testing.T) { // P14.2
	wide := of(0x10000, maxRune)
	p := rules(api.Rule{Key: slices.Repeat(row(wide), 8), Post: slices.Repeat(row(wide), 8)})
	q := rules(api.Rule{Key: slices.Repeat(row(wide), 8), Post: slices.Repeat(row(wide), 8), End: true})
	for n := range 64 {
		known := strings.Repeat("\U00010000", 16)[:n]
		asks(t, p, nil, nil, known, open)
		asks(t, q, nil, nil, known, open)
		if s, _ := need.Doubt(p, nil, nil, known); n > 3 && len(s) != 64-n {
			t.Errorf("%d bytes are known: %d may come", n, len(s))
		}
	}
	raw := rules(api.Rule{Key: slices.Repeat(row(of(firstRaw, lastRaw)), 8), Post: slices.Repeat(row(of(firstRaw, lastRaw)), 8)})
	asks(t, raw, nil, nil, "\x80", open)
	asks(t, raw, nil, nil, strings.Repeat("\xF0", 15), open)
	asks(t, raw, nil, nil, strings.Repeat("\xF0", 16), open)
	asks(t, raw, nil, nil, strings.Repeat("\xF0", 17), 0)
	lead := rules(api.Rule{Key: slices.Repeat(row(of(0x1100C2, 0x1100F4)), 8), Post: slices.Repeat(row(of(0x1100C2, 0x1100F4)), 8)})
	asks(t, lead, nil, nil, "\xC3", open)
	asks(t, lead, nil, nil, strings.Repeat("\xE2", 9), open)
}
