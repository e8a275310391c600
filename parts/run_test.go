package parts_test

import (
	"math"
	"slices"
	"strings"
	"testing"

	"respell/api"
	"respell/parts"
	"respell/pass"
)

// noWorkers are numbers of which there can't be as many workers: next to those that can be, far away, and such as would be among them in fewer bits.
var noWorkers = []int{math.MinInt, math.MinInt + 1, -1<<32 + 1, -1<<31 + 1, -256, -16, -2, -1, 0, 17, 18, 32, 255, 257, 1<<8 + 2, 1<<16 + 3, 1<<31 + 1, 1<<32 + 1, 1<<62 + 4, math.MaxInt - 1, math.MaxInt}

// everyone is all numbers of workers that can be.
var everyone = []int{1, 2, 3, 4, 5, 6, 7, 8, 9, 10, 11, 12, 13, 14, 15, 16}

// same holds what some workers make of a text, each number of them, against what pass makes of it.
func same(t *testing.T, p api.Pass, s string, workers ...int) string {
	t.Helper()
	want, e := pass.Run(p, s)
	if e != api.OK {
		t.Fatalf("%s over %.90q: pass tells %d", brief(p), s, e)
	}
	for _, n := range workers {
		if got, e := parts.Run(p, s, n); got != want || e != api.OK {
			t.Fatalf("%s over %.90q by %d: %.90q, %d; pass tells %.90q", brief(p), s, n, got, e, want)
		}
	}
	return want
}

// runs holds what any number of workers make of a text against what is wanted.
func runs(t *testing.T, rules, s, want string) {
	t.Helper()
	if got := same(t, read(t, rules), s, everyone...); got != want {
		t.Errorf("%s over %.90q: %.90q; want %.90q", rules, s, got, want)
	}
}

func TestExamplesOfRun(t *testing.T) { // P17.2
	const ends = "^ { a > A ; b } $ > B"
	runs(t, ends, "ab ab", "Ab aB")
	if got, e := parts.Run(read(t, ends), "ab ab", 3); got != "Ab aB" || e != api.OK {
		t.Errorf("%q, %d", got, e)
	}
	for _, n := range []int{0, 17} {
		if got, e := parts.Run(read(t, ends), "ab ab", n); got != "" || e != api.ErrArg {
			t.Errorf("by %d: %q, %d", n, got, e)
		}
	}
}

func TestHowManyWorkers(t *testing.T) { // P17.2, P17.3
	for _, rules := range []string{"", "a > b", "^ { a > A ; b } $ > B", ". > x"} {
		p := read(t, rules)
		for _, s := range []string{"", " ", "ab ab", "a b a b", "\xE2a\x82", strings.Repeat("ab ", 5461) + "a"} {
			for _, n := range noWorkers {
				if got, e := parts.Run(p, s, n); got != "" || e != api.ErrArg {
					t.Errorf("%s over %.60q by %d: %.60q, %d", rules, s, n, got, e)
				}
			}
			same(t, p, s, everyone...)
		}
	}
}

func TestExamplesOfTheWhole(t *testing.T) { // P17.2, W2, DOC.md
	for _, x := range [][3]string{
		{"a > b", "aXa", "bXb"}, {"a > b", "\xE2a\x82", "\xE2b\x82"}, {"a > ", "\xE2a\x82\xAC", "€"}, {"€ > E", "\xE2\x82\xAC", "E"}, {"a > x ; ab > y", "abaab", "yxy"}, {"a } b > x", "abaa", "xbaa"}, {"x { a > x ; a > y", "aaxa", "yyxx"}, {"x { a > x ; a > y", "xaa", "xxx"}, {"ab > b | c ; c > d", "ab", "bd"}, {"^ { a > A", "aa", "Aa"}, {"[a-c] > @1:[x-z]", "abcd", "xyzd"}, {"[x-z] > @1:[a-c]", "xyzd", "abcd"}, {`\b{80} > E`, "\x80€", "E€"}, {`a > \b{C3} ; b > \b{A9}`, "ab", "é"},
	} {
		runs(t, x[0], x[1], x[2])
	}
	refuses(t, read(t, "ab > | ba"), "ab", 1, api.ErrWeighMost)
}

func TestBeginningsAndEnds(t *testing.T) { // P17.2: of the text, and of no part
	for _, x := range [][3]string{
		{"^ { a > A", "a a a", "A a a"}, {"^ { a > A", " a a", " a a"}, {"^ { a > ", "aa aa", " aa"}, {"^ a { a > A", "aa aa", "aA aa"}, {"^ ab { a > A", "aba aba", "abA aba"}, {"^ { a > | b ; ^ { b > c", "aa aa", "ca aa"},
		{"a } $ > A", "a a a", "a a A"}, {"a } $ > A", "a a ", "a a "}, {"a } b $ > A", "ab ab", "ab Ab"}, {"aa } $ > ", "aa aa", "aa "}, {"a } ab $ > A", "aab aab", "aab Aab"},
		{"^ { a } $ > A", "a a", "a a"}, {"^ { a } $ > A", "a", "A"}, {"^ { a } $ > A", " a", " a"}, {"^ { a } $ > A", "a ", "a "}, {"^ { a > A ; a } $ > Z", "a a a a", "A a a Z"}, {"^ { a > A ; a } $ > Z", "éaéaéa", "éaéaéZ"}, {"^ { a > A ; a } $ > Z", "a\xE2a\x82a", "A\xE2a\x82Z"},
		// A quiet unit that a rule has written is no beginning either.
		{"x { a > A ; ^ { a > B", "xa a xa", "xA a xA"}, {"b > q ; ^ { a > A", "ba ba", "qa qa"}, {"b > ; ^ { a > A", "ba ba", "A a"}, {"b > ; a } $ > A", "ab ab", "a a"},
	} {
		runs(t, x[0], x[1], x[2])
	}
}

func TestContextsAndWhatIsPutBack(t *testing.T) { // P17.2
	for _, x := range [][3]string{
		{"a } b > x", "ab a b ab", "xb a b xb"}, {"a { b > x", "ab a b ab", "ax a b ax"}, {"aa } bb > x ; b { c > y", "aabb aab bbc", "xbb aab bby"}, {"abcdefgh } abcdefgh > !", "abcdefghabcdefgh abcdefgh abcdefgh", "!abcdefgh abcdefgh abcdefgh"},
		{"a > | bb ; b > | cc ; c > d", "a b c", "dddd dd d"}, {"ab > b | c ; c > d", "ab ab c", "bd bd d"}, {"aa > | a", "aaa aaa a", "a a a"}, {"aa > x | a", "aa aaa", "xa xxa"}, {"ab > |", "aabb ab", "ab "}, {"a > | bc ; cd > x ; b > y", "ad a d", "yx yc d"},
		// Rules that write nothing, and such as write what no rule looks at.
		{"a > ", "aa a aa", "  "}, {"a > ", "aaa", ""}, {". > ", "any\xFFtext", ""}, {"a > ; b > ", " ab ba ", "   "}, {"a > y ; b > | zz", "a b a", "y zz y"}, {"[ab] > @1:[01]", "ab ab", "01 01"}, {"[ab] > | @1:[01]", "ab ab", "01 01"}, {"a > | é\\b{80}", "a a", "é\x80 é\x80"},
		{"x { a > x ; b > x", "ba ba a", "xx xx a"}, {"a { a > b", "aaaa aa", "abab ab"}, {"b { a > ; a > b", "aaaa aaa", "b b"},
	} {
		runs(t, x[0], x[1], x[2])
	}
}

func TestRunesAndStrays(t *testing.T) { // P17.2
	for _, x := range [][3]string{
		// Quiet units of each width.
		{"^ { a > A ; a } $ > Z", "aéa€a\U00010000a", "Aéa€a\U00010000Z"}, {"a } € > x", "a€éa€é", "x€éx€é"}, {"é { a > x", "éa€éa\xC3a", "éx€éx\xC3a"},
		// Strays that are quiet, and such as are not.
		{"\\b{80} > x", "\x80\x81\x80€\x80", "x\x81x€x"}, {"\\b{E2}\\b{82} > x", "\xE2\x82\xE2\xE2\x82€", "x\xE2x€"}, {"[:stray:] > @1 @1", "\xFFa\x80é\xC3", "\xFF\xFFa\x80\x80é\xC3\xC3"}, {"\\b{A9} > x", "\xC3\xC3\xA9\xA9", "\xC3éx"},
		// Strays that stand side by side in the result alone.
		{"a > ", "\xE2a\x82\xAC", "€"}, {"a > ", "\xE2a\x82a\xAC", "€"}, {"a > ; € > E", "\xE2a\x82\xAC€", "€E"}, {"a > ; b > B", "\xC3a\xA9b\xC3\xA9b\xC3aa\xA9", "éBéBé"}, {"a > \\b{C3} ; b > \\b{A9}", "ab.ab", "é.é"}, {"a > \\b{E2}\\b{82}", "a\xAC.a\xAC", "€.€"}, {"a > \\b{A9}", "\xC3a\xC3a", "éé"}, {"a > | \\b{A9} ; b > ", "\xC3ba\xC3a", "éé"}, {"a > ", "\xF0a\x90a\x80a\x80", "\U00010000"}, {"é > \\b{A9}", "\xC3é\xC3é", "éé"},
		// FFFD is a rune, and no stray is it.
		{"\\x{FFFD} > F", "\uFFFD\xFF\xEF\xBF\uFFFD\xBD", "F\xFF\xEF\xBFF\xBD"}, {"\\b{FF} > \\x{FFFD}", "\xFFa\uFFFD\xFF", "\uFFFDa\uFFFD\uFFFD"},
	} {
		runs(t, x[0], x[1], x[2])
	}
}

func TestHowManyParts(t *testing.T) { // P17.2, P17.3: texts without a safe place, with one, with many
	const text = "^ { a > A ; a } $ > Z ; b { a > | cc ; c } c > d ; b > b"
	p := read(t, text)
	for _, words := range []int{1, 2, 3, 5, 15, 16, 17, 33, 63, 64, 65, 130, 1000, 2000} {
		for _, word := range []string{"a", "ba", "bcca", "abacab"} {
			for _, gap := range []string{" ", "é", "\xE2", "  ", "\xE2\x82 "} {
				s := strings.Repeat(word+gap, words)
				if len(s) > 16384 {
					continue
				}
				s = strings.TrimSuffix(s, gap)
				if n := len(safe(t, p, s)); n != (words-1)*len(parted(gap)) {
					t.Fatalf("%d places in %.60q", n, s)
				}
				same(t, p, s, everyone...)
				same(t, p, gap+s+gap, 1, 2, 7, 16)
			}
		}
	}
	// One safe place, wherever it is.
	for at := range 70 {
		s := strings.Repeat("ba", 35)
		s = s[:at] + " " + s[at:]
		if n := len(safe(t, p, s)); n != 1 {
			t.Fatalf("%d places in %q", n, s)
		}
		same(t, p, s, everyone...)
	}
}

// parted is the units of a text, each by itself.
func parted(s string) []string {
	var l []string
	for len(s) > 0 {
		_, n := unitByWords(s)
		l = append(l, s[:n])
		s = s[n:]
	}
	return l
}

func TestPartsOfAllLengths(t *testing.T) { // P17.2, P17.3: gaps that are not alike, in long texts
	m := made(174, 0, 0)
	for _, text := range []string{"^ { a > A ; a } $ > Z", "a } b > x ; b { a > y ; bb > ", "a > | bb ; b } b > c ; aab > | a"} {
		p := read(t, text)
		for range 40 {
			var s strings.Builder
			for most := m.Intn(16384); s.Len() < most; {
				for range m.Intn(pick(m, 2, 20, 500)) {
					s.WriteByte(pick(m, byte('a'), 'b'))
				}
				s.WriteString(pick(m, " ", "é", "€", "\U0010FFFF", "\xF0", "\xE2\x82"))
			}
			cut := s.String()[:min(s.Len(), 16384)]
			safe(t, p, cut)
			same(t, p, cut, 1, 1+m.Intn(16), 16)
		}
	}
}

func TestWhatIsMadeMayBeLonger(t *testing.T) { // P17.2: a text that comes in alone has a limit
	runs(t, "a > bbbb", strings.Repeat("a", 16384), strings.Repeat("b", 65536))
	runs(t, "a > bbbb", strings.Repeat("a ", 8192), strings.Repeat("bbbb ", 8192))
	p := rules(api.Rule{Key: row(a), Result: slices.Repeat(pieces(unit(maxRune)), 16), Cursor: 16})
	if got := same(t, p, strings.Repeat("aaaaaaa ", 2048), 1, 5, 16); got != strings.Repeat(strings.Repeat("\U0010FFFF", 7*16)+" ", 2048) {
		t.Errorf("%d bytes", len(got))
	}
}

func TestTheLongestRun(t *testing.T) { // P17.2: the longest text, nearly each of its units as heavy as one may be
	p, s := heavy()
	want := strings.ReplaceAll(s, "\x00", "\x3F")
	for _, n := range []int{1, 8, 16} {
		if got, e := parts.Run(p, s, n); got != want || e != api.OK {
			t.Errorf("by %d: %.60q, %d", n, got, e)
		}
	}
}

// heavy is a pass and a text that take as many steps as may be, and can be parted.
func heavy() (api.Pass, string) {
	var p api.Pass
	for i := range 63 {
		p.Rules = append(p.Rules, api.Rule{Key: row(of(i, i)), Result: pieces(unit(i + 1))})
	}
	return p, strings.Repeat(strings.Repeat("\x00", 127)+"~", 128)
}
