package book_test

import (
	"fmt"
	"strings"
	"testing"

	"respell/api"
	"respell/book"
	"respell/names"
	"respell/parse"
)

// How passes and texts are written in these tests: as a rules' text has them, or by hand where that can't.

// read is the passes of a rules' text.
func read(t *testing.T, text string) []api.Pass {
	t.Helper()
	lines, fault := parse.Parse(text)
	if fault.Code != api.OK {
		t.Fatalf("%s: %v", brief(text), fault)
	}
	l, line, e := names.Passes(lines)
	if e != api.OK {
		t.Fatalf("%s: %d, %d", brief(text), line, e)
	}
	return l
}

func of(n ...int) api.Set {
	var s api.Set
	for i := 0; i+1 < len(n); i += 2 {
		s = append(s, api.Range{Lo: n[i], Hi: n[i+1]})
	}
	return s
}

func row(l ...api.Set) []api.Set { return l }

func pieces(l ...api.Piece) []api.Piece { return l }

func unit(u int) api.Piece               { return api.Piece{Kind: api.PUnit, Unit: u} }
func again(k int) api.Piece              { return api.Piece{Kind: api.PCopy, Key: k} }
func paired(k int, to api.Set) api.Piece { return api.Piece{Kind: api.PPair, Key: k, To: to} }

func rules(l ...api.Rule) api.Pass { return api.Pass{Rules: l} }

// one is a pass by itself, of some rules.
func one(l ...api.Rule) []api.Pass { return []api.Pass{rules(l...)} }

// brief is the beginning of what something is written as.
func brief(x any) string { return fmt.Sprintf("%.500s", fmt.Sprint(x)) }

const (
	maxRune  = 0x10FFFF
	firstRaw = 0x110080
	lastRaw  = 0x1100FF
)

var (
	a   = of('a', 'a')
	abc = of('a', 'c')
	all = of(0, 0xD7FF, 0xE000, maxRune, firstRaw, lastRaw)
)

// each is n ranges of a unit each, of which no two touch.
func each(from, n int) api.Set {
	var s api.Set
	for i := range n {
		s = append(s, api.Range{Lo: from + 2*i, Hi: from + 2*i})
	}
	return s
}

// tooLong is a text over which nothing runs.
var tooLong = strings.Repeat("a", 16385)

// ran holds what Run answers against the words, and against what is wanted.
func ran(t *testing.T, rules, s, want string) {
	t.Helper()
	made, e := ranByWords(t, rules, s)
	if made != want || e != api.OK {
		t.Fatalf("%s over %.200q: %.200q, %d; want %.200q", brief(rules), s, made, e, want)
	}
}

// long holds that a chain refuses a text.
func long(t *testing.T, rules, s string) {
	t.Helper()
	if made, e := ranByWords(t, rules, s); made != "" || e != api.ErrLong {
		t.Fatalf("%s over %d bytes: %.200q, %d; want ErrLong", brief(rules), len(s), made, e)
	}
}

func TestExamples(t *testing.T) { // P23.1 to P23.3
	ran(t, "a > b ;", "aXa", "bXb")
	for _, s := range []string{"", "a", tooLong} {
		if made, fault, e := book.Run("a > | a ;", s); made != "" || fault != (api.Fault{At: 0, Code: api.ErrWeighMost}) || e != api.OK {
			t.Errorf("%q, %v, %d", made, fault, e)
		}
	}
	ran(t, "$v = [aeiou] ; $v > ; then ; b > B ;", "abaco", "Bc")
	back, fault, n, e := book.Back("[a-c] > @1:[x-z] ;")
	if want := "[x-z] > @1:[a-c] ;\n"; back != want || fault != (api.Fault{}) || n != 0 || e != api.OK {
		t.Errorf("%q, %v, %d, %d; want %q", back, fault, n, e, want)
	}
	ran(t, "", "\xFF", "\xFF")
}

func TestTenExamplesOfTheWhole(t *testing.T) { // DOC.md
	ran(t, "a > b ;", "aXa", "bXb")
	ran(t, "a > b ;", "\xE2a\x82", "\xE2b\x82")
	ran(t, "a > ;", "\xE2a\x82\xAC", "€")
	ran(t, "a > ; then ; € > E ;", "\xE2a\x82\xAC", "E")
	ran(t, "a > x ; ab > y ;", "abaab", "yxy")
	ran(t, "a } b > x ;", "abaa", "xbaa")
	ran(t, "x { a > x ; a > y ;", "aaxa", "yyxx")
	ran(t, "x { a > x ; a > y ;", "xaa", "xxx")
	refused(t, "ab > | ba ;", 0, api.ErrWeighMost)
	ran(t, "ab > b | c ; c > d ;", "ab", "bd")
	ran(t, "^ { a > A ;", "aa", "Aa")
	ran(t, "[a-c] > @1:[x-z] ;", "abcd", "xyzd")
	ran(t, "\\b{80} > E ;", "\x80€", "E€")
	ran(t, "a > \\b{C3} ; b > \\b{A9} ;", "ab", "é")
}

func TestTheSeventhByAStream(t *testing.T) { // DOC.md, P23.1: the chain that Open answers has streams
	c, fault := book.Open("^ { a > A ;")
	if fault != (api.Fault{}) {
		t.Fatal(fault)
	}
	x := c.Stream()
	for _, want := range []string{"A", "a"} {
		if told := string(x.Put([]byte("a"))); told != want {
			t.Errorf("%q, not %q", told, want)
		}
	}
	if told := x.Close(); len(told) > 0 {
		t.Errorf("%q", told)
	}
}

func TestTheEighthBack(t *testing.T) { // DOC.md, P23.3, P23.7
	back := turned(t, "[a-c] > @1:[x-z] ;", "[x-z] > @1:[a-c] ;\n")
	for _, s := range []string{"abcd", "", "cba", "dcbaé\xE2\x82", "1\xFF"} {
		made, _ := ranByWords(t, "[a-c] > @1:[x-z] ;", s)
		ran(t, back, made, s)
	}
	ran(t, back, "xabc", "aabc")
}

func TestRulesThatDoNothing(t *testing.T) { // P23.1, P23.2: texts without rules
	for _, text := range []string{"", " \t\r\n", "# nothing", "# a > b ;\n", "then ;", "then;then\n;", strings.Repeat("then ;", 15), "$v = a ;", "$v = [aeiou] ; then ; $w = [$v [:digit:]] ;"} {
		for _, s := range []string{"", "abc", "then ;", "\xE2a\x82\xAC", "\xFF", "\x00", strings.Repeat("é", 8192)} {
			ran(t, text, s, s)
		}
		long(t, text, tooLong)
	}
}

func TestRunOfChains(t *testing.T) { // P23.2
	ran(t, "a > b ; then ; b > c ; then ; c > d ;", "abcd", "dddd")
	ran(t, "c > d ; then ; b > c ; then ; a > b ;", "abcd", "bcdd")
	ran(t, "then ; a > b ; then ; then ; b > c ; then ;", "ab", "cc")
	ran(t, "$v = a ; then ; $v > b ; then ; $w = [$v b] ; $w > c ;", "abd", "ccd")
	ran(t, "a > \\b{C3} ; b > \\b{A9} ; then ; é > ab ;", "ab", "ab")
	ran(t, "x { [:digit:] } $ > @1@1 ; . > @1:. ;", "x1x2", "x1x22")
	ran(t, "[^[:ascii:]] > \\? ;", "aé€\xFF", "a??\xFF")
	ran(t, "[:stray:] > ;", "a\xE2é\x82", "aé")
	ran(t, "a > @1@1 ; then ; aa > | b ; b > c ;", "ada", "cdc")
	var text strings.Builder
	for n := range 16 {
		fmt.Fprintf(&text, "%c > %c ; then ;", 'a'+n, 'b'+n)
	}
	ran(t, strings.TrimSuffix(text.String(), "then ;"), "aqr", "qqr")
}

func TestWhatTheChainRefuses(t *testing.T) { // P23.2: the chain's own error
	most := tooLong[:16384]
	for _, text := range []string{"", "a > b ;", "a > ;", "then ;", "a > a a ;"} {
		long(t, text, tooLong)
		long(t, text, strings.Repeat("\xFF", 20000))
	}
	ran(t, "a > b ;", most, strings.Repeat("b", 16384))
	ran(t, "a > ;", most, "")
	// The last pass may write as much as it likes, and no other one.
	twice := most + most
	ran(t, "a > a a ;", most, twice)
	ran(t, "then ; a > a a ;", most, twice)
	long(t, "a > a a ; then ;", most)
	long(t, "a > a a ; then ; a > ;", most)
	ran(t, "a > a a ; then ; a > ;", most[:8192], "")
	long(t, "a > a a ; then ; a > ;", most[:8193])
	long(t, "a > a a ; then ; aa > a ; then ; a > a a ; then ; a > ;", most)
	ran(t, "a > € ; then ; € > a ;", most[:5461], most[:5461])
	long(t, "a > € ; then ; € > a ;", most[:5462])
	// A text's fault is told alone.
	refused(t, "a > a a ; then", 14, api.ErrParseWant)
}

func TestTheChainIsThatOfThePasses(t *testing.T) { // P23.1: all that a chain answers
	for _, text := range samples {
		c, fault := book.Open(text)
		if fault != (api.Fault{}) {
			t.Fatalf("%s: %v", brief(text), fault)
		}
		for _, s := range texts {
			sameAsPasses(t, c, read(t, text), s)
		}
	}
}
