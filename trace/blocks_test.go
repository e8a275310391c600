package trace_test

import (
	"fmt"
	"slices"
	"strings"
	"testing"

	"respell/api"
	"respell/names"
	"respell/parse"
	"respell/pass"
	"respell/trace"
	"respell/weigh"
)

// How passes and blocks are written in these tests: as a rules' text and the chapter have them, or by hand where that can't.

// read is the pass of a rules' text; the last ; may be left out.
func read(t *testing.T, text string) api.Pass {
	t.Helper()
	if strings.TrimSpace(text) != "" && !strings.HasSuffix(text, ";") {
		text += " ;"
	}
	lines, fault := parse.Parse(text)
	if fault.Code != api.OK {
		t.Fatalf("%s: %v", text, fault)
	}
	passes, line, e := names.Passes(lines)
	if e != api.OK || len(passes) != 1 {
		t.Fatalf("%s: %d passes, %d, %d", text, len(passes), line, e)
	}
	return passes[0]
}

func of(n ...int) api.Set {
	var s api.Set
	for i := 0; i+1 < len(n); i += 2 {
		s = append(s, api.Range{Lo: n[i], Hi: n[i+1]})
	}
	return s
}

func row(l ...api.Set) []api.Set { return l }

func pieces(l ...api.Piece) []api.Piece { return l }

func unit(u int) api.Piece               { return api.Piece{Kind: api.PUnit, Unit: u} }
func again(k int) api.Piece              { return api.Piece{Kind: api.PCopy, Key: k} }
func paired(k int, to api.Set) api.Piece { return api.Piece{Kind: api.PPair, Key: k, To: to} }

const (
	maxRune  = 0x10FFFF
	firstRaw = 0x110080
	lastRaw  = 0x1100FF
)

var (
	a   = of('a', 'a')
	abc = of('a', 'c')
	all = of(0, 0xD7FF, 0xE000, maxRune, firstRaw, lastRaw)
)

// list is blocks, of four numbers each.
func list(n ...int) []api.Block {
	var l []api.Block
	for b := range slices.Chunk(n, 4) {
		l = append(l, api.Block{S0: b[0], S1: b[1], R0: b[2], R1: b[3]})
	}
	return l
}

// written is blocks as the chapter writes them.
func written(l []api.Block) string { return strings.Trim(fmt.Sprint(l), "[]") }

// blocksOf is the blocks of a pass that may be, over a text that is not too long.
func blocksOf(t *testing.T, p api.Pass, text string) []api.Block {
	t.Helper()
	l, e := trace.Blocks(p, text)
	if e != api.OK {
		t.Fatalf("%.300s over %.60q: %d", fmt.Sprint(p), text, e)
	}
	return l
}

// cuts holds the blocks of rules over a text against what is wanted.
func cuts(t *testing.T, rules, text, want string) {
	t.Helper()
	if got := written(blocksOf(t, read(t, rules), text)); got != want {
		t.Errorf("%s over %q: %s; want %s", rules, text, got, want)
	}
}

// refuses holds that nothing but an error is answered, the one that pass.Run has.
func refuses(t *testing.T, p api.Pass, text string, code api.Errno) {
	t.Helper()
	if l, e := trace.Blocks(p, text); len(l) != 0 || e != code {
		t.Errorf("%.300s over %.60q: %.100s, %d; want %d", fmt.Sprint(p), text, written(l), e, code)
	}
	if _, e := pass.Run(p, text); e != code {
		t.Errorf("%.300s over %.60q: pass.Run tells %d, not %d", fmt.Sprint(p), text, e, code)
	}
}

func TestBlocksExamples(t *testing.T) { // P13.1
	cuts(t, "", "aé", "{0 1 0 1} {1 3 1 3}")
	cuts(t, "a > ; b > xy ;", "abc", "{0 1 0 0} {1 2 0 2} {2 3 2 3}")
	cuts(t, "ab > b | c ; cd > e ;", "abdx", "{0 3 0 2} {3 4 2 3}")
}

func TestBlocksWithoutRules(t *testing.T) { // P13.1: each unit by itself, however wide
	for _, x := range [][2]string{
		{"", ""}, {"a", "{0 1 0 1}"}, {"\x00", "{0 1 0 1}"}, {"é", "{0 2 0 2}"}, {"€", "{0 3 0 3}"}, {"\U0010FFFF", "{0 4 0 4}"}, {"\uFFFD", "{0 3 0 3}"},
		{"\xE2", "{0 1 0 1}"}, {"\xE2\x82", "{0 1 0 1} {1 2 1 2}"}, {"a\xE2\x82\xACb", "{0 1 0 1} {1 4 1 4} {4 5 4 5}"}, {"\x82\xE2\xAC", "{0 1 0 1} {1 2 1 2} {2 3 2 3}"},
		{"\xF0\x90\x80x", "{0 1 0 1} {1 2 1 2} {2 3 2 3} {3 4 3 4}"}, {"\xEF\xBF\xBD\xFF", "{0 3 0 3} {3 4 3 4}"}, {"\xED\xA0\x80é", "{0 1 0 1} {1 2 1 2} {2 3 2 3} {3 5 3 5}"},
	} {
		cuts(t, "", x[0], x[1])
		// Nor is anything touched by rules whose sets have none of these units, or that fit nowhere.
		cuts(t, "q > | rr ; [r-u] > ; \\b{F8} > x", x[0], x[1])
		cuts(t, "q { [^v] > | v ; . } q > ", x[0], x[1])
	}
}

func TestBlocksOfWhatIsAllDone(t *testing.T) { // P13.1: a rule whose result is all done is a block
	for _, x := range [][3]string{
		{"a > b", "aXa", "{0 1 0 1} {1 2 1 2} {2 3 2 3}"}, {"a > b", "\xE2a\x82", "{0 1 0 1} {1 2 1 2} {2 3 2 3}"}, {"a > a", "aa", "{0 1 0 1} {1 2 1 2}"},
		{"a > xyz", "bab", "{0 1 0 1} {1 2 1 4} {2 3 4 5}"}, {"abc > x", "abcabcab", "{0 3 0 1} {3 6 1 2} {6 7 2 3} {7 8 3 4}"}, {"abcdefgh > 0123456789ABCDEF", "abcdefgh", "{0 8 0 16}"},
		{"a > x ; ab > y", "abaab", "{0 2 0 1} {2 3 1 2} {3 5 2 3}"}, {"ab > xy", "ab", "{0 2 0 2}"},
		// Bytes, not units: of runes, of copies, of pairs.
		{"é > x", "éé", "{0 2 0 1} {2 4 1 2}"}, {"x > €", "xax", "{0 1 0 3} {1 2 3 4} {2 3 4 7}"}, {"é€ > \U0010FFFF", "é€é", "{0 5 0 4} {5 7 4 6}"},
		{"[aé€]x > @1@1", "éx€xax", "{0 3 0 4} {3 7 4 10} {7 9 10 12}"}, {"[ab] > @1:[é€]", "abba", "{0 1 0 2} {1 2 2 5} {2 3 5 8} {3 4 8 10}"}, {"[é€]. > @1:[ab]@2@2", "€é", "{0 5 0 5}"},
		// What stands ahead and behind is not taken.
		{"x { a } b > yy", "xab", "{0 1 0 1} {1 2 1 3} {2 3 3 4}"}, {"^ { a > A", "aa", "{0 1 0 1} {1 2 1 2}"}, {"a } $ > zz", "aa", "{0 1 0 1} {1 2 1 3}"}, {"x { a > x ; a > yy", "aaxa", "{0 1 0 2} {1 2 2 4} {2 3 4 5} {3 4 5 6}"},
	} {
		cuts(t, x[0], x[1], x[2])
	}
}

func TestBlocksOfNothing(t *testing.T) { // P13.1: a rule whose result is nothing is a block with nothing of the result
	for _, x := range [][3]string{
		{"a > ", "a", "{0 1 0 0}"}, {"a > ", "aaa", "{0 1 0 0} {1 2 0 0} {2 3 0 0}"}, {"a > ", "bab", "{0 1 0 1} {1 2 1 1} {2 3 1 2}"}, {"a > ", "baa", "{0 1 0 1} {1 2 1 1} {2 3 1 1}"},
		{"ab > ; é > ", "éabcé", "{0 2 0 0} {2 4 0 0} {4 5 0 1} {5 7 1 1}"}, {". > ", "€\xE2\U00010000", "{0 3 0 0} {3 4 0 0} {4 8 0 0}"},
		// Put back, and taken for nothing.
		{"a > | b ; b > ", "aab", "{0 1 0 0} {1 2 0 0} {2 3 0 0}"}, {"a > | bb ; b > ; cc > ", "caca", "{0 1 0 1} {1 2 1 1} {2 3 1 2} {3 4 2 2}"}, {"ab > | c ; cd > ", "abdabd", "{0 3 0 0} {3 6 0 0}"},
	} {
		cuts(t, x[0], x[1], x[2])
	}
}

func TestBlocksOfStrays(t *testing.T) { // P13.1: strays are units by themselves, whatever they make side by side
	for _, x := range [][3]string{
		{"a > ", "\xE2a\x82\xAC", "{0 1 0 1} {1 2 1 1} {2 3 1 2} {3 4 2 3}"}, {"a > \\b{C3} ; b > \\b{A9}", "ab", "{0 1 0 1} {1 2 1 2}"}, {"\\b{80} > E", "\x80€", "{0 1 0 1} {1 4 1 4}"},
		{"x > \\b{F0}\\b{90}\\b{80}\\b{80}", "axa", "{0 1 0 1} {1 2 1 5} {2 3 5 6}"}, {"é > \\b{C3}", "é\xA9", "{0 2 0 1} {2 3 1 2}"}, {"a > \\b{A9}", "\xC3aa", "{0 1 0 1} {1 2 1 2} {2 3 2 3}"},
		{"\\b{E2} > @1@1 ; \\b{82}. > @2", "\xE2a\x82\xAC", "{0 1 0 2} {1 2 2 3} {2 4 3 4}"}, {"[\\b{80}-\\b{81}] > @1:[ab]", "\x81\x80", "{0 1 0 1} {1 2 1 2}"},
		// Put back they stay what they are, beside one another and beside the source's.
		{"a > | \\b{C3}\\b{A9} ; é > xyz", "aé", "{0 1 0 2} {1 3 2 5}"}, {"a > | \\b{C3} ; é > xyz", "a\xA9", "{0 1 0 1} {1 2 1 2}"}, {"a > | \\b{C3} ; \\b{C3}\\b{A9} > xyz", "a\xA9", "{0 2 0 3}"},
	} {
		cuts(t, x[0], x[1], x[2])
	}
}

func TestBlocksOfWhatIsPutBack(t *testing.T) { // P13.1: all that was put back, and what was taken with it, is one block
	for _, x := range [][3]string{
		// Once, and what comes goes over, or is done by a rule.
		{"a > | x", "ab", "{0 1 0 1} {1 2 1 2}"}, {"a > | xy", "aa", "{0 1 0 2} {1 2 2 4}"}, {"a > xy | z", "ba", "{0 1 0 1} {1 2 1 4}"}, {"ab > b | c ; c > d", "ab", "{0 2 0 2}"}, {"a > | b ; b > cc", "aba", "{0 1 0 2} {1 2 2 4} {2 3 4 6}"},
		// What is put back is not the source's, also where it is the same.
		{"ab > x | b", "abb", "{0 2 0 2} {2 3 2 3}"}, {"ab > | @2", "abb", "{0 2 0 1} {2 3 1 2}"},
		// Again and again.
		{"a > | bb ; b > | cc ; c > d", "abca", "{0 1 0 4} {1 2 4 6} {2 3 6 7} {3 4 7 11}"}, {"a > | b ; b > | c ; c > | d ; d > ", "axa", "{0 1 0 0} {1 2 0 1} {2 3 1 1}"}, {"a > x | bc ; b > y | dd", "ae", "{0 1 0 5} {1 2 5 6}"}, {"a > | bc ; bc > | de ; de > | f", "aa", "{0 1 0 1} {1 2 1 2}"},
		// Together with what stands behind it.
		{"ab > x | a", "cabbbc", "{0 1 0 1} {1 5 1 5} {5 6 5 6}"}, {"ab > | a", "abbbcab", "{0 4 0 1} {4 5 1 2} {5 7 2 3}"}, {"a > | bcd ; bc > x ; dy > z", "ayq", "{0 2 0 2} {2 3 2 3}"}, {"a > | b ; bcde > x", "acdef", "{0 4 0 1} {4 5 1 2}"}, {"a > b | b ; b€ > é | b ; bé > ", "a€€éa", "{0 9 0 5} {9 10 5 7}"},
		// What stands behind is looked at, but not taken.
		{"a > | b ; b } c > xx", "aca", "{0 1 0 2} {1 2 2 3} {2 3 3 4}"},
		// Up to the end of the text.
		{"ab > x | a", "abbb", "{0 4 0 4}"}, {"ab > | a", "abbb", "{0 4 0 1}"}, {"ab > | a ; a } $ > ", "cabbb", "{0 1 0 1} {1 5 1 1}"}, {"a > | bb", "ca", "{0 1 0 1} {1 2 1 3}"}, {"a > | b ; b } $ > | cc", "aa", "{0 1 0 1} {1 2 1 3}"},
		// Its order, and the width of each of its units.
		{"a > | é€ ; é€ > xy ; €é > q", "aa", "{0 1 0 2} {1 2 2 4}"}, {"a > | é€b ; b > ", "aé", "{0 1 0 5} {1 3 5 7}"}, {"[ab]é > @2 | @1:[é€]@2 ; €é > z", "aébé", "{0 3 0 6} {3 6 6 9}"}, {"a > é | bcd ; b > | € ; € { c > ", "aa", "{0 1 0 6} {1 2 6 12}"},
	} {
		cuts(t, x[0], x[1], x[2])
	}
}

func TestLongBlocks(t *testing.T) { // P13.1: a whole text in one block, and as many blocks as bytes
	n := api.MaxText
	if l := blocksOf(t, read(t, "ab > xy | a"), "a"+strings.Repeat("b", n-1)); !slices.Equal(l, list(0, n, 0, 2*n-1)) {
		t.Errorf("%.100s", written(l))
	}
	if l := blocksOf(t, read(t, "ab > | a ; a > "), "a"+strings.Repeat("b", n-1)); !slices.Equal(l, list(0, n, 0, 0)) {
		t.Errorf("%.100s", written(l))
	}
	for _, x := range []struct {
		rules string
		wide  int // of a block of the result
	}{{"", 1}, {"a > ", 0}, {"a > €", 3}, {"a > | bbbbbbb ; b > | cccccccc", 56}, {"a > x | é", 3}} {
		l := blocksOf(t, read(t, x.rules), strings.Repeat("a", n))
		if len(l) != n {
			t.Errorf("%s: %d blocks", x.rules, len(l))
		}
		for i, b := range l {
			if b != (api.Block{S0: i, S1: i + 1, R0: i * x.wide, R1: (i + 1) * x.wide}) {
				t.Fatalf("%s: block %d is %v", x.rules, i, b)
			}
		}
	}
}

// bad is passes that may not be, one for each error.
func bad(t *testing.T) map[api.Errno]api.Pass {
	one := func(r api.Rule) api.Pass { return api.Pass{Rules: []api.Rule{{Key: row(a)}, r}} }
	return map[api.Errno]api.Pass{
		api.ErrRuleKey:    one(api.Rule{}),
		api.ErrRuleSet:    one(api.Rule{Key: row(of('b', 'a'))}),
		api.ErrRuleMany:   {Rules: slices.Repeat([]api.Rule{{Key: row(a)}}, api.MaxRules+1)},
		api.ErrRulePiece:  one(api.Rule{Key: row(a), Result: pieces(unit(0xD800)), Cursor: 1}),
		api.ErrRuleCopy:   one(api.Rule{Key: row(a), Result: pieces(again(1)), Cursor: 1}),
		api.ErrRulePair:   one(api.Rule{Key: row(a), Result: pieces(paired(0, abc)), Cursor: 1}),
		api.ErrRuleCursor: one(api.Rule{Key: row(a), Cursor: 1}),
		api.ErrWeighBack:  read(t, "a > b ; [ab]c > | @1"),
		api.ErrWeighMost:  read(t, "a > | b ; b > | a"),
	}
}

func TestBlocksErrors(t *testing.T) { // P13.1: pass.Run's
	most := strings.Repeat("a", api.MaxText)
	for code, p := range bad(t) {
		if _, e := weigh.Check(p); e != code {
			t.Errorf("%.300s: %d, not %d", fmt.Sprint(p), e, code)
		}
		// Of a pass that may not be nothing else is told, however long the text.
		for _, text := range []string{"", "a", "xyz\xE2", most, most + "a", most + most} {
			refuses(t, p, text, code)
		}
	}
	for _, n := range []int{9, 100000} {
		refuses(t, api.Pass{Rules: []api.Rule{{Key: row(a), Ante: slices.Repeat(row(a), n)}}}, "a", api.ErrRuleMany)
	}
}

func TestBlocksOfTooLongTexts(t *testing.T) { // P13.1, R8
	for _, rules := range []string{"", "a > ", "a > | bb", "é > x"} {
		p := read(t, rules)
		for _, x := range []string{"a", "é", "\xFF", "b\xE2"} {
			text := strings.Repeat(x, api.MaxText/len(x))
			l := blocksOf(t, p, text)
			made, _ := pass.Run(p, text)
			if last := l[len(l)-1]; len(text) != api.MaxText || last.S1 != len(text) || last.R1 != len(made) {
				t.Errorf("%s over %d times %q: up to %v", rules, len(text)/len(x), x, last)
			}
			refuses(t, p, text+"a", api.ErrLong)
			refuses(t, p, "\xFF"+text, api.ErrLong)
			refuses(t, p, text+text, api.ErrLong)
		}
	}
}
