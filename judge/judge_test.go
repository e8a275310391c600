package judge_test

import (
	"fmt"
	"slices"
	"strings"
	"testing"

	"respell/api"
	"respell/names"
	"respell/parse"
)

// How passes are written in these tests: as a rules' text has them, or by hand where that can't.

// read is the pass of a rules' text; the last ; may be left out.
func read(t *testing.T, text string) api.Pass {
	t.Helper()
	if strings.TrimSpace(text) != "" && !strings.HasSuffix(text, ";") {
		text += " ;"
	}
	lines, fault := parse.Parse(text)
	if fault.Code != api.OK {
		t.Fatalf("%s: %v", text, fault)
	}
	passes, line, e := names.Passes(lines)
	if e != api.OK || len(passes) != 1 {
		t.Fatalf("%s: %d passes, %d, %d", text, len(passes), line, e)
	}
	return passes[0]
}

func of(n ...int) api.Set {
	var s api.Set
	for i := 0; i+1 < len(n); i += 2 {
		s = append(s, api.Range{Lo: n[i], Hi: n[i+1]})
	}
	return s
}

// setOf is the set of some units, in any order.
func setOf(l ...int) api.Set {
	l = slices.Clone(l)
	slices.Sort(l)
	var s api.Set
	for _, u := range l {
		if k := len(s); k > 0 && s[k-1].Hi >= u-1 && u != 0xE000 {
			s[k-1].Hi = u
		} else {
			s = append(s, api.Range{Lo: u, Hi: u})
		}
	}
	return s
}

// in is the set of a text's units.
func in(s string) api.Set { return setOf(unitsByWords(s)...) }

func row(l ...api.Set) []api.Set { return l }

func pieces(l ...api.Piece) []api.Piece { return l }

func unit(u int) api.Piece               { return api.Piece{Kind: api.PUnit, Unit: u} }
func again(k int) api.Piece              { return api.Piece{Kind: api.PCopy, Key: k} }
func paired(k int, to api.Set) api.Piece { return api.Piece{Kind: api.PPair, Key: k, To: to} }

func rules(l ...api.Rule) api.Pass { return api.Pass{Rules: l} }

func brief(x any) string { return fmt.Sprintf("%.400s", fmt.Sprint(x)) }

const (
	maxRune  = 0x10FFFF
	firstRaw = 0x110080
	lastRaw  = 0x1100FF
	c3, a9   = 0x1100C3, 0x1100A9 // together they are é
	many     = 1048576            // MaxJudge
)

// everything is all units.
var everything = of(0, 0xD7FF, 0xE000, maxRune, firstRaw, lastRaw)

// is holds what Differ answers, and that it is the same the other way about, and that a pass is like itself.
func is(t *testing.T, p, q api.Pass, over api.Set, most int, want answer) {
	t.Helper()
	if got := differ(p, q, over, most); got != want {
		t.Errorf("%s and %s over %s, %d: %v; want %v", brief(p), brief(q), brief(over), most, got, want)
	}
	if got := differ(q, p, over, most); got != want {
		t.Errorf("%s and %s over %s, %d, the other way about: %v; want %v", brief(p), brief(q), brief(over), most, got, want)
	}
}

// wants is one of Differ, as a table has it: of the texts of two passes, and all units of a third text.
type wants struct {
	p, q, over string
	most       int
	want       answer
}

func (w wants) hold(t *testing.T) {
	t.Helper()
	p, q, over := read(t, w.p), read(t, w.q), in(w.over)
	is(t, p, q, over, w.most, w.want)
	if size(over) < 10 && w.most < 7 {
		if want := firstByWords(t, p, q, textsByWords(over, w.most)); want != w.want {
			t.Errorf("%s and %s over %q, %d: the test is wrong: %v", w.p, w.q, w.over, w.most, want)
		}
	}
}

// exact is a pass that changes just some texts, of at most eight units each.
func exact(texts ...[]int) api.Pass {
	var p api.Pass
	for _, l := range texts {
		r := api.Rule{Begin: true, End: true}
		for _, u := range l {
			r.Key = append(r.Key, of(u, u))
		}
		p.Rules = append(p.Rules, r)
	}
	return p
}

func TestExamples(t *testing.T) { // P22.1
	for _, w := range []wants{
		{"a > b", "a > b ; b > b", "abc", 3, same},
		{"a > b", "aa > bb ; a > c", "ab", 3, told("a")},
		{"ab > x", "a } b > ; b > x", "ab", 2, told("b")},
		{"", "a >", "bcdefghijklmnopqrstuvwxyz", 2, same},
		{"", "", "a", 4097, answer{code: api.ErrArg}},
		{"", "", "a", 4096, same},
	} {
		w.hold(t)
	}
	is(t, api.Pass{}, api.Pass{}, everything, 2, answer{code: api.ErrJudgeMany})
	is(t, api.Pass{}, read(t, "a > b"), of('c', 'a'), 1, answer{code: api.ErrSetRow})
}

func TestExamplesOfTheWhole(t *testing.T) { // P22.1: those of DOC.md that are of one pass
	for _, w := range []wants{
		{"a > b", "", "aXb", 3, told("a")}, {"a > b", "X > X", "Xb", 3, same}, {"a > b", "", "\xE2a\x82", 3, told("a")}, {"a > b", "", "\xE2\x82", 3, same},
		{"a >", "", "\x82\xAC\xE2", 3, same}, {"a > ; € > E", "a >", "\xE2a\x82\xAC", 4, same}, {"a > ; € > E", "a >", "\xE2a\x82\xAC€", 4, told("€")},
		{"a > x ; ab > y", "a > x", "ab", 5, told("ab")}, {"ab > y ; a > x", "a > x ; ab > y", "ab", 5, same}, {"a > x ; ab > y", "a } b > y ; a > x", "ab", 5, told("ab")},
		{"a } b > x", "ab > xb", "ab", 5, same}, {"a } b > x", "a > x", "ab", 5, told("a")},
		{"x { a > x ; a > y", "a > y", "ax", 4, told("xa")}, {"x { a > x ; a > y", "a > y ; x { a > x", "ax", 4, told("xa")}, {"x { a > x ; a > y", "a > y", "ab", 5, same},
		{"ab > b | c ; c > d", "ab > bd ; c > d", "abcd", 4, same}, {"ab > b | c ; c > d", "ab > bc ; c > d", "abcd", 4, told("ab")},
		{"^ { a > A", "a > A", "a", 6, told("aa")}, {"^ { a > A", "a > A", "a", 1, same},
		{"[a-c] > @1:[x-z]", "a > x ; b > y ; c > z", "abcdz", 4, same}, {"[a-c] > @1:[x-z]", "a > x ; b > y ; c > y", "abcdz", 4, told("c")},
		{"\\b{80} > E", "", "€é", 4, same}, {"\\b{80} > E", "", "\x80€", 4, told("\x80")},
		{"a > \\b{C3} ; b > \\b{A9}", "ab > é ; a > \\b{C3} ; b > \\b{A9}", "ab", 6, same},
	} {
		w.hold(t)
	}
	is(t, read(t, "a > b"), rules(api.Rule{Key: row(of('a', 'a'), of('b', 'b')), Result: pieces(again(1), again(0))}), in("ab"), 1, answer{code: api.ErrWeighBack})
}

func TestWhatStandsAheadAndBehind(t *testing.T) { // P22.1
	for _, w := range []wants{
		// Begin and End, alone and behind contexts.
		{"^ { a > x", "a > x", "ab", 4, told("aa")}, {"^ { a > x", "", "ab", 4, told("a")}, {"^ { a > x", "a > x", "ab", 1, same},
		{"a } $ > x", "a > x", "ab", 4, told("aa")}, {"a } $ > x", "", "ab", 4, told("a")}, {"a } $ > x", "^ { a > x", "ab", 4, told("aa")},
		{"^ b { a > x", "b { a > x", "ab", 2, same}, {"^ b { a > x", "b { a > x", "ab", 3, told("aba")},
		{"a } b $ > x", "a } b > x", "ab", 2, same}, {"a } b $ > x", "a } b > x", "ab", 3, told("aba")},
		{"^ { aa } $ > x", "aa > x", "ab", 2, same}, {"^ { aa } $ > x", "aa > x", "ab", 3, told("aaa")}, {"^ { aa } $ > x", "^ { aa > x", "ab", 3, told("aaa")}, {"^ { aa } $ > x", "aa } $ > x", "ab", 3, told("aaa")},
		// Ante and post.
		{"b { a > x", "a > x", "ab", 3, told("a")}, {"b { a > x", "", "ab", 3, told("ba")}, {"b { a > x", "[ab] { a > x", "ab", 3, told("aa")}, {"b { a > x", "[bc] { a > x", "ab", 3, same},
		{"a } b > x", "a > x", "ab", 3, told("a")}, {"a } b > x", "", "ab", 3, told("ab")}, {"a } b > x", "a } [ab] > x", "ab", 3, told("aa")}, {"a } b > x", "a } [bc] > x", "ab", 3, same},
		{"bb { a > x", "b { a > x", "ab", 3, told("ba")}, {"bb { a > x", "ba { a > x", "ab", 3, told("baa")}, {"ab { a > x", "ba { a > x", "ab", 3, told("aba")},
		{"a } bb > x", "a } b > x", "ab", 3, told("ab")}, {"a } ab > x", "a } ba > x", "ab", 3, told("aab")},
		// What is ahead is what was written; what is behind, what stands there still.
		{"a { a > x", "x { a > x", "a", 4, told("aa")}, {"x { a > y ; a > x", "a > x", "a", 4, told("aa")}, {"a } a > x", "a } x > x", "a", 4, told("aa")}, {"a } a > x", "", "a", 1, same},
		{"x { b > y ; a > x", "a } b > x ; a > x ; b > y", "ab", 1, told("b")}, {"x { b > y ; a > x", "ab > xy ; a > x", "ab", 4, same},
		{"aaaaaaaa { a > x", "", "a", 8, same}, {"aaaaaaaa { a > x", "", "a", 9, told("aaaaaaaaa")}, {"a } aaaaaaaa > x", "", "a", 8, same}, {"a } aaaaaaaa > x", "", "a", 12, told("aaaaaaaaa")},
		{"^ aaaaaaaa { aaaaaaaa } aaaaaaaa $ > x", "", "a", 23, same}, {"^ aaaaaaaa { aaaaaaaa } aaaaaaaa $ > x", "", "a", 4096, told(strings.Repeat("a", 24))},
	} {
		w.hold(t)
	}
}

func TestWhereTheCursorIs(t *testing.T) { // P22.1
	for _, w := range []wants{
		{"a > b | c ; c > d", "a > bc ; c > d", "ab", 3, told("a")}, {"a > b | c ; c > d", "a > | bc ; c > d", "abc", 3, same}, {"a > b | c ; c > d", "a > bc ; c > d", "bc", 3, same},
		{"a > b | c", "a > bc", "abc", 4, same}, {"a > | bc", "a > bc", "abc", 4, same},
		{"ab > b | b ; bb > x", "ab > | bb ; bb > x", "ab", 3, told("ab")}, {"ab > b | b ; bb > x", "ab > bb | ; bb > x", "ab", 3, told("abb")},
		{"ab > | b", "ab > b", "ab", 3, same}, {"ab > | b ; bb > x", "ab > b ; bb > x", "ab", 3, told("abb")}, {"aa > | a", "aa > a", "a", 2, same}, {"aa > | a", "aa > a", "a", 3, told("aaa")},
		{"aa > | @2", "a } a >", "a", 6, same}, {"[ab]c > @2 | @1:[xy] ; y > z", "[ab]c > @2 @1:[xy] ; y > z", "abc", 3, told("bc")},
		{"a > x | x", "a > xx", "ax", 4, same}, {"a > x | x ; x { x > y", "a > xx ; x { x > y", "a", 4, told("a")},
	} {
		w.hold(t)
	}
}

func TestTheOrderOfTexts(t *testing.T) { // P22.1
	// Each of two texts is changed: the first of them is told.
	for _, x := range [][2]string{
		{"a", "b"}, {"a", "aa"}, {"b", "aa"}, {"\xFF", "aa"}, {"\xFF\xFF", "aaa"}, {"\U0010FFFF", "aa"}, {"ab", "ba"}, {"aab", "aba"}, {"aba", "abb"}, {"abb", "baa"}, {"bbb", "aaaa"},
		// By units, not by bytes: a text of fewer units may have more bytes, and a rune's bytes are greater than what strays have.
		{"é", "\x80"}, {"\U0010FFFF", "\x80"}, {"€", "\x82"}, {"\x80", "\xFF"}, {"a\U00010000", "a\x80"}, {"€", "ab"}, {"\U00010000", "ab"}, {"€€", "aaa"}, {"\x80", "aa"}, {"aé", "a\xA9"}, {"éa", "\x80a"},
		// Runes of one, two, three and four bytes, on both sides of what parts them.
		{"\x00", "\x01"}, {"\x7F", "\u0080"}, {"\u07FF", "\u0800"}, {"\uD7FF", "\uE000"}, {"\uFFFF", "\U00010000"}, {"\uFFFD", "\uFFFE"}, {"\uFFFD", "\x80"}, {"\uFFFD", "\xEF"}, {"\U0001F600", "\xF0\x9F"}, {"z", "é"}, {"é", "€"}, {"€", "\U00010000"},
		// The first unit that is unlike says it, whatever follows.
		{"az", "ba"}, {"a\xFF", "ba"}, {"éz", "€a"}, {"a\U0010FFFFb", "a\x80a"}, {"\x80\xFF", "\xFF\x80"}, {"ab\xFF", "b\x80a"},
	} {
		first, then := unitsByWords(x[0]), unitsByWords(x[1])
		over := in("a" + x[0] + x[1])
		most := max(len(first), len(then))
		for _, p := range []api.Pass{exact(first, then), exact(then, first)} {
			is(t, p, api.Pass{}, over, most, told(x[0]))
			is(t, p, exact(first), over, most, told(x[1]))
			is(t, p, exact(then), over, most, told(x[0]))
			is(t, p, p, over, most, same)
		}
		is(t, exact(first), exact(then), over, most, told(x[0]))
	}
}

// mixed are units of one, two, three and four bytes, and strays that make a rune.
var mixed = setOf('a', 0xE9, 0x20AC, 0x10001, a9, c3, lastRaw)

func TestEachTextIsOne(t *testing.T) { // P22.1: all of them, and in their order
	rows := rowsByWords(mixed, 3)
	var texts [][]int
	no := 0
	for _, l := range rows[1:] {
		want := same
		if properByWords(l) {
			texts = append(texts, l)
			want = told(bytesOf(l...))
		} else {
			no++
		}
		is(t, exact(l), api.Pass{}, mixed, 3, want)
	}
	if len(rows) != 400 || no != 15 || len(texts) != 384 {
		t.Fatalf("%d rows, %d of them no texts, %d texts", len(rows), no, len(texts))
	}
	for i, l := range texts[1:] {
		is(t, exact(l, texts[i]), api.Pass{}, mixed, 3, told(bytesOf(texts[i]...)))
	}
	m := made(221)
	for range 1500 {
		i, j := m.Intn(len(texts)), m.Intn(len(texts))
		is(t, exact(texts[i], texts[j]), api.Pass{}, mixed, 3, told(bytesOf(texts[min(i, j)]...)))
	}
}

func TestStraysThatAreNotProper(t *testing.T) { // P22.1
	for _, w := range []wants{
		// These rows are no texts, though their bytes are one.
		{"é > x", "", "\xA9\xC3", 5, same}, {"é > x", "", "\xA9\xC3é", 5, told("é")}, {"^ { é } $ > x", "", "a\xA9\xC3é", 2, told("é")}, {"\\b{C3}\\b{A9} > x", "", "\xA9\xC3é", 5, same},
		{"€ > x", "", "\x82\xAC\xE2", 5, same}, {"\\b{E2}\\b{82}\\b{AC} > x", "", "\xE2a\x82\xAC€", 4, same}, {"\U00010000 > x", "", "\xF0\x90\x80", 5, same},
		{"\\x{FFFD} > x", "", "\xBF\xBD\xEF", 4, same}, {"\\x{FFFD} > x", "", "\xBF\xBD\xEF\uFFFD", 4, told("\uFFFD")},
		// The same strays, where they are.
		{"\\b{A9}\\b{C3} > x", "", "\xA9\xC3é", 4, told("\xA9\xC3")}, {"\\b{C3}\\b{C3} > x", "", "\xA9\xC3é", 4, told("\xC3\xC3")}, {"\\b{C3} } $ > x", "\\b{C3} > x", "\xA9\xC3", 2, told("\xC3\xC3")}, {"\\b{C3} } $ > x", "\\b{C3} > x", "a\xA9\xC3", 2, told("\xC3a")},
		{"\\b{C3}.\\b{A9} > x", "", "a\xA9\xC3", 3, told("\xC3a\xA9")}, {"\\b{C3}.\\b{A9} > x", "", "\xA9\xC3", 6, same}, {"\\b{E2}\\b{82} > x", "", "\x82\xAC\xE2", 2, told("\xE2\x82")}, {"\\b{E2}\\b{82} } [^a] > x", "", "\x82\xAC\xE2", 3, same}, {"\\b{E2}\\b{82} } . > x", "", "\x82\xAC\xE2", 3, told("\xE2\x82\xE2")},
		{"\\b{82}\\b{AC} > x", "", "\x82\xAC\xE2", 3, told("\x82\xAC")}, {"\\b{E2} { \\b{82} > x", "", "\x82\xAC\xE2", 3, told("\xE2\x82")}, {"\\b{82} { \\b{AC} > x", "", "\x82\xAC\xE2", 3, told("\x82\xAC")},
		// A rune's bytes next to strays of which it could be made: FF is of none.
		{"\\b{A9} > x", "", "é", 4, same}, {"\\b{A9} > x", "", "é\xA9\xC3", 4, told("\xA9")}, {"\\b{FF}\\b{FF} > x", "", "\xFF", 3, told("\xFF\xFF")}, {"\\b{F4}\\b{90} > x", "", "\xF4\x90\x80", 4, told("\xF4\x90")}, {"\\b{F4}\\b{90}\\b{80}\\b{80} > x", "", "\xF4\x90\x80", 4, told("\xF4\x90\x80\x80")}, {"\\b{ED}\\b{A0}\\b{80} > x", "", "\xED\xA0\x80", 3, told("\xED\xA0\x80")}, {"\\b{C0}\\b{80} > x", "", "\xC0\x80", 3, told("\xC0\x80")},
	} {
		w.hold(t)
	}
}

func TestStraysThatBecomeARune(t *testing.T) { // P22.1: in what is made
	for _, w := range []wants{
		{"a > \\b{C3}\\b{A9}", "a > é", "ab", 4, same}, {"a > \\b{C3} | \\b{A9}", "a > é", "ab", 4, same}, {"a > \\b{C3} | \\b{A9} ; \\b{A9} > b", "a > é ; \\b{A9} > b", "a", 4, told("a")},
		{"a > \\b{C3} ; b > \\b{A9}", "a > \\b{C3} ; a { b > \\b{A9}", "ab", 4, told("b")}, {"a > \\b{C3} ; b > \\b{A9}", "ab > é ; a > \\b{C3} ; b > \\b{A9}", "ab", 4, same}, {"a > \\b{C3} ; b > \\b{A9}", "ab > è ; a > \\b{C3} ; b > \\b{A9}", "ab", 4, told("ab")},
		{"a >", "\\b{C3}a\\b{A9} > é ; a >", "a\xA9\xC3", 4, same}, {"a >", "\\b{C3}a\\b{A9} > è ; a >", "a\xA9\xC3", 4, told("\xC3a\xA9")}, {"a > ; é > x", "a >", "a\xA9\xC3", 4, same}, {"a > | \\b{C3}\\b{A9} ; é > x", "a > é", "a", 4, same}, {"é > a", "é > \\b{C3}\\b{A9}", "a\xA9\xC3", 4, same}, {"é > a", "é > \\b{C3}\\b{A9}", "aé", 4, told("é")},
		{"a > \\b{E2}\\b{82}\\b{AC}", "a > €", "ab", 3, same}, {"a > \\b{E2}\\b{82}", "a > €", "ab", 3, told("a")}, {"\\b{A9} > \\b{A8}", "\\b{A9} > \\b{A8} ; é > è", "\xA9\xC3", 4, same}, {"\\b{A9} > \\b{A8}", "\\b{A9} > \\b{A8} ; é > è", "\xA9\xC3é", 4, told("é")},
		{"a > \\b{EF}\\b{BF}\\b{BD}", "a > \\x{FFFD}", "a", 2, same}, {"a > \\b{FF}", "a > \\x{FFFD}", "a", 2, told("a")}, {"a > \\b{FF}", "a > \\b{FE}", "a", 2, told("a")},
	} {
		w.hold(t)
	}
}

func TestTheLastTextOfALength(t *testing.T) { // P22.1
	for _, over := range []api.Set{in("a"), in("ab"), mixed, in("éa\x80"), in("\x80"), in("\xFF\xFE"), of('a', 'z', firstRaw+1, firstRaw+2), in("\U0010FFFF"), in("\x00")} {
		l := inOrder(over)
		lo, hi := l[0], l[len(l)-1]
		for n := 1; n <= 3; n++ {
			last, next := slices.Repeat([]int{hi}, n), slices.Repeat([]int{lo}, n+1)
			for most := range 5 {
				want := same
				if n <= most {
					want = told(bytesOf(last...))
				}
				is(t, exact(last), api.Pass{}, over, most, want)
				want = same
				if n+1 <= most {
					want = told(bytesOf(next...))
				}
				is(t, exact(next), api.Pass{}, over, most, want)
			}
			is(t, exact(last, next), exact(last), over, n, same)
			is(t, exact(last, next), exact(last), over, n+1, told(bytesOf(next...)))
			is(t, exact(last, next), exact(next), over, n+1, told(bytesOf(last...)))
		}
	}
}

func TestTheEmptyText(t *testing.T) { // P22.1, P22.2: no pass makes another one of it
	passes := []string{"", "a > b", "a >", ". >", "^ { . } $ > ab", "a > | bb"}
	for _, x := range passes {
		for _, y := range passes {
			p, q := read(t, x), read(t, y)
			for _, over := range []api.Set{nil, {}, in("a"), in("ab\xFF"), of(0, 0xFFF)} {
				is(t, p, q, over, 0, same)
			}
			for _, most := range []int{0, 1, 2, 20, 4095, 4096} {
				is(t, p, q, nil, most, same)
				is(t, p, q, api.Set{}, most, same)
			}
		}
	}
	for _, over := range []api.Set{everything, everything[:2], everything[2:], of(0, 0xD7FF, 0xE000, many)} {
		is(t, read(t, "a > b"), read(t, ". >"), over, 0, same)
	}
}

// counter is rules that let a unit eat all units u in what is left, and count them; at n they write an x.
func counter(u, n int) api.Pass {
	const from = 0x20000
	eats := func(n int) api.Rule {
		key := append(row(of(from, from+5000)), slices.Repeat(row(of(u, u)), n)...)
		return api.Rule{Key: key, Result: pieces(paired(0, of(from+n, from+5000+n)))}
	}
	start := api.Rule{Begin: true, Key: row(of(u, u)), Result: pieces(unit(from))}
	write := api.Rule{Key: row(of(from+n-1, from+n-1)), Result: pieces(unit('x')), Cursor: 1}
	return rules(start, eats(7), eats(1), write)
}

func TestOneUnit(t *testing.T) { // P22.1: of all lengths
	for _, n := range []int{1, 2, 3, 7, 24, 25, 26, 100, 255, 256, 257} {
		is(t, counter('a', n), counter('a', 5000), in("a"), n-1, same)
		is(t, counter('a', n), counter('a', 5000), in("a"), n, told(strings.Repeat("a", n)))
		is(t, counter('a', n), counter('a', n+1), in("a"), 300, told(strings.Repeat("a", n)))
	}
	// Of the longest ones, of the units that have most bytes.
	p, q := counter(maxRune, 4096), counter(maxRune, 5000)
	if got := differ(p, q, of(maxRune, maxRune), 4095); got != same {
		t.Error(got)
	}
	if got := differ(p, q, of(maxRune, maxRune), 4096); got != told(strings.Repeat("\U0010FFFF", 4096)) {
		t.Error(got)
	}
}
