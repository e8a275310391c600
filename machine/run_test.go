package machine_test

import (
	"fmt"
	"iter"
	"slices"
	"strings"
	"testing"

	"respell/api"
	"respell/machine"
	"respell/pass"
)

// stepsOf is the iterator of a text that is not too long.
func stepsOf(t *testing.T, m *machine.Machine, text string) iter.Seq[api.Step] {
	t.Helper()
	seq, e := m.Steps(text)
	if seq == nil || e != api.OK {
		t.Fatalf("over %.60q: an iterator: %t, %d", text, seq != nil, e)
	}
	return seq
}

// written is steps as chapter 10 writes them.
func written(l []api.Step) string {
	var parts []string
	for _, s := range l {
		parts = append(parts, fmt.Sprintf("%d: %d %d %d %d %d", s.Rule, s.Done, s.Left, s.Took, s.Laid, s.Back))
	}
	return strings.Join(parts, "; ")
}

// same holds a machine against its pass over a text: what both make of it, and step by step. It tells the steps.
func same(t *testing.T, p api.Pass, m *machine.Machine, text string) []api.Step {
	t.Helper()
	want, e := pass.Run(p, text)
	if got, code := m.Run(text); got != want || code != e {
		t.Fatalf("%.300s over %.60q: %.60q, %d; pass tells %.60q, %d", fmt.Sprint(p), text, got, code, want, e)
	}
	seq, e := pass.Steps(p, text)
	if e != api.OK {
		t.Fatalf("%.300s over %.60q: pass tells %d", fmt.Sprint(p), text, e)
	}
	steps, got := slices.Collect(seq), slices.Collect(stepsOf(t, m, text))
	if !slices.Equal(got, steps) {
		t.Fatalf("%.300s over %.60q: %.300s; pass tells %.300s", fmt.Sprint(p), text, written(got), written(steps))
	}
	return steps
}

// runs holds what a machine makes of a text against what is wanted, and against what pass tells.
func (m asked) runs(t *testing.T, text, want string) {
	t.Helper()
	if got, e := m.Run(text); got != want || e != api.OK {
		t.Errorf("%.300s over %.60q: %.60q, %d; want %.60q", fmt.Sprint(m.pass), text, got, e, want)
	}
	same(t, m.pass, m.Machine, text)
}

func runsText(t *testing.T, rules, text, want string) {
	t.Helper()
	about(t, read(t, rules)).runs(t, text, want)
}

func goesText(t *testing.T, rules, text, want string) {
	t.Helper()
	p := read(t, rules)
	m := made(t, p)
	if got := written(slices.Collect(stepsOf(t, m, text))); got != want {
		t.Errorf("%s over %q: %s; want %s", rules, text, got, want)
	}
	same(t, p, m, text)
}

// long holds that a text is too long for both calls.
func long(t *testing.T, m *machine.Machine, text string) {
	t.Helper()
	if got, e := m.Run(text); got != "" || e != api.ErrLong {
		t.Errorf("over %d bytes: %.60q, %d", len(text), got, e)
	}
	if seq, e := m.Steps(text); seq != nil || e != api.ErrLong {
		t.Errorf("over %d bytes: an iterator: %t, %d", len(text), seq != nil, e)
	}
}

func TestExamplesOfPass(t *testing.T) { // P12.3, chapter 10
	runsText(t, "a > x ; ab > y", "abaab", "yxy")
	goesText(t, "a > x ; ab > y", "abaab", "1: 0 5 2 1 0; 0: 1 3 1 1 0; 1: 2 2 2 1 0")
	runsText(t, "ab > b | c ; c > d", "ab", "bd")
	goesText(t, "ab > b | c ; c > d", "ab", "0: 0 2 2 1 1; 1: 1 1 1 1 0")
	runsText(t, "x { a > x ; a > y", "aaxa", "yyxx")
	goesText(t, "x { a > x ; a > y", "aaxa", "1: 0 4 1 1 0; 1: 1 3 1 1 0; -1: 2 2 1 1 0; 0: 3 1 1 1 0")
	runsText(t, "a > ", "\xE2a\x82", "\xE2\x82")
	goesText(t, "a > ", "\xE2a\x82", "-1: 0 3 1 1 0; 0: 1 2 1 0 0; -1: 1 1 1 1 0")
	runsText(t, "a } $ > z", "aa", "az")
	goesText(t, "a } $ > z", "aa", "-1: 0 2 1 1 0; 0: 1 1 1 1 0")
	runsText(t, "", "", "")
	goesText(t, "", "", "")
	for _, rules := range []string{"", "a > x ; ab > y", "a } $ > z"} {
		long(t, made(t, read(t, rules)), strings.Repeat("a", 16385))
	}
}

func TestExamplesOfTheWhole(t *testing.T) { // P12.3, DOC.md
	for _, x := range [][3]string{
		{"a > b", "aXa", "bXb"}, {"a > b", "\xE2a\x82", "\xE2b\x82"}, {"a > ", "\xE2a\x82\xAC", "€"}, {"€ > E", "\xE2\x82\xAC", "E"}, {"a } b > x", "abaa", "xbaa"}, {"x { a > x ; a > y", "xaa", "xxx"}, {"^ { a > A", "aa", "Aa"}, {"[a-c] > @1:[x-z]", "abcd", "xyzd"}, {"[x-z] > @1:[a-c]", "xyzd", "abcd"}, {`\b{80} > E`, "\x80€", "E€"}, {`a > \b{C3} ; b > \b{A9}`, "ab", "é"},
	} {
		runsText(t, x[0], x[1], x[2])
	}
	refuses(t, read(t, "ab > | ba"), api.ErrWeighMost)
}

func TestHowLongATextMayBe(t *testing.T) { // P12.3
	bare, some := made(t, api.Pass{}), about(t, read(t, "a > x ; x { é > ; .. } $ > !"))
	for _, n := range []int{16385, 16386, 16388, 20000, 32768, 1 << 20} {
		for _, x := range []string{"a", "b", "é", "\xFF", "€", "\U0010FFFF"} {
			// Bytes count, not units.
			text := strings.Repeat(x, n/len(x)+1)
			long(t, bare, text)
			long(t, some.Machine, text)
			long(t, bare, text[:16385])
			long(t, some.Machine, text[:16385])
		}
	}
	for _, n := range []int{16382, 16383, 16384} {
		for _, x := range []string{"a", "b", "é", "\xFF", "€", "\U0010FFFF", "aé€\xE2\x82x"} {
			text := strings.Repeat(x, n/len(x)+1)[:n]
			same(t, api.Pass{}, bare, text)
			same(t, some.pass, some.Machine, text)
		}
	}
	some.runs(t, strings.Repeat("a", 16384), strings.Repeat("x", 16382)+"!")
	runsText(t, ". > ", strings.Repeat("€", 5461)+"\xE2", "")
	runsText(t, `\x{10FFFF} } $ > \b{80}`, strings.Repeat("\U0010FFFF", 4096), strings.Repeat("\U0010FFFF", 4095)+"\x80")
}

func TestWhatIsMadeMayBeLonger(t *testing.T) { // P12.3: a text that comes in alone has a limit
	runsText(t, "a > bb", strings.Repeat("a", 16384), strings.Repeat("b", 32768))
	m := about(t, rules(api.Rule{Key: row(all), Result: slices.Repeat(pieces(unit(maxRune)), 16), Cursor: 16}))
	m.runs(t, strings.Repeat("\xE2", 16384), strings.Repeat("\U0010FFFF", 16*16384))
}

func TestRunesAndStrays(t *testing.T) { // P12.3
	for _, x := range [][3]string{
		// Of each width, in the text and in what is written.
		{"a > é ; é > € ; € > \\x{10FFFF} ; \\x{10FFFF} > a", "aé€\U0010FFFF", "é€\U0010FFFFa"}, {"é > ", "aébé", "ab"}, {"\\x{0} > \\x{7F} ; \\x{7F} > \\x{80}", "\x00\x7F\u0080", "\x7F\u0080\u0080"}, {"\\x{D7FF} > \\x{E000}", "\uD7FF\uE000", "\uE000\uE000"},
		// Strays are units by themselves, and keep their bytes.
		{"\\b{80} > x", "\x80\x81\x80", "x\x81x"}, {"\\b{E2} > x", "\xE2€\xE2", "x€x"}, {"\\b{82} > x", "\xE2\x82€", "\xE2x€"}, {"\\b{AC} > x", "€", "€"}, {"[\\b{80}-\\b{FF}] > @1 @1", "\xFFa\x80", "\xFF\xFFa\x80\x80"}, {".. > x", "\xF0\x90\x80", "x\x80"}, {".... > x", "\xF0\x90\x80\x80", "\U00010000"}, {"[:rune:] > r ; [:stray:] > s", "a\xC3é\xC0\x80\xED\xA0\x80", "rsrsssss"},
		// The rune FFFD is no stray, and no stray is it.
		{"\\x{FFFD} > F", "\uFFFD\xFF\xEF\xBF\uFFFD", "F\xFF\xEF\xBFF"}, {"\\b{EF}\\b{BF} > F", "\uFFFD\xEF\xBF\xBD\xEF\xBF", "\uFFFD\uFFFDF"}, {"\\b{FF} > \\x{FFFD}", "a\xFF", "a\uFFFD"},
		// A rune that is cut off at the end.
		{"\\b{E2} } \\b{82} $ > E", "€\xE2\x82", "€E\x82"},
		// Strays that come side by side stay the units that they were, in what is done and in what is left.
		{"a > ; € > E", "\xE2a\x82\xAC", "€"}, {"a > ; é > E ; é { b > B", "\xC3a\xA9b", "éb"}, {"a > ; \\b{C3}\\b{A9} { b > B", "\xC3a\xA9b", "éB"}, {"a > | \\b{C3} ; é > E", "a\xA9", "é"}, {"a > | \\b{C3} ; \\b{C3}\\b{A9} > E", "a\xA9", "E"}, {"a > | \\b{C3}\\b{A9} ; é > E ; \\b{A9} } $ > F", "a", "\xC3F"}, {"é > \\b{C3}\\b{A9} ; é { a > A ; \\b{A9} { b > B", "éaéb", "éaéB"},
	} {
		runsText(t, x[0], x[1], x[2])
	}
}

func TestCopiesAndPairs(t *testing.T) { // P12.3
	for _, x := range [][3]string{
		{".. > @2 @1", "€\xE2é", "\xE2€é"}, {"abc > @3@1@2@3", "abc", "cabc"}, {"[a-h][a-h][a-h][a-h][a-h][a-h][a-h][a-h] > @8@7@6@5@4@3@2@1", "abcdefgh", "hgfedcba"}, {"[ab]c > x @1 | @2", "acbc", "xacxbc"}, {"a[bc]d > | @3 @2 ; db > !", "abdacd", "!dc"},
		// Sets in one piece and in several, which are not cut alike.
		{"[a-c] > @1:[x-z]", "cba", "zyx"}, {"[a-c] > @1:[xz\\x{E9}]", "abc", "xzé"}, {"[axé] > @1:[m-o]", "éxa", "onm"}, {"[a-cx-z] > @1:[0-46]", "abcxyz", "012346"}, {"[0-46] > @1:[a-cx-z]", "012346", "abcxyz"}, {"[a-df] > @1:[1-24-57]", "abcdf", "12457"}, {"[acegi] > @1:[13579]", "acegi", "13579"},
		{"[a-z] > @1:[A-Z]", "the quick", "THE QUICK"}, {"[a-z] > @1:[b-z\\x{7B}]", "az", "b{"}, {"[b-z] > @1:[a-y]", "ibm", "hal"},
		// Across the borders of runes and strays, up and down.
		{"[a-c] > @1:[\\x{10FFFF}\\b{80}\\b{FF}]", "abc", "\U0010FFFF\x80\xFF"}, {"[\\x{D7FF}\\x{E000}\\b{80}] > @1:[x-z]", "\x80\uE000\uD7FF", "zyx"}, {"[:stray:] > @1:[\\x{80}-\\x{FF}]", "\x80\xFFé\xC3", "\u0080\u00FFé\u00C3"}, {"[\\x{D7FE}-\\x{D7FF}\\x{E000}-\\x{E001}] > @1:[0-3]", "\uD7FE\uD7FF\uE000\uE001", "0123"},
		// Several of one place, done and put back.
		{"[ab][xy] > | @1:[cd] @2:[pq] ; c > C ; q > Q", "axby", "CpdQ"}, {"[a-c] > @1 | @1:[x-z] ; y > Y", "abc", "axbYcz"}, {"[ab][ab] > @1:[xy] | @2", "abba", "xyya"}, {"[ab] > @1:[cd]@1:[ef]@1", "ab", "ceadfb"},
	} {
		runsText(t, x[0], x[1], x[2])
	}
	// All units, each to another one that is as far away from the other end of a row with holes.
	from, to := of(0, 0xD7FF, 0xE000, maxRune), of(1, 0xD7FF, 0xE000, maxRune, lastRaw, lastRaw)
	m := about(t, rules(api.Rule{Key: row(from), Result: pieces(paired(0, to)), Cursor: 1}))
	m.runs(t, "\x00a\uD7FE\uD7FF\uE000\uFFFF\U0010FFFE\U0010FFFF\xFF", "\x01b\uD7FF\uE000\uE001\U00010000\U0010FFFF\xFF\xFF")
	m = about(t, rules(api.Rule{Key: row(to), Result: pieces(paired(0, from)), Cursor: 1}))
	m.runs(t, "\x00\x01b\uD7FF\uE000\uE001\U00010000\U0010FFFF\xFF", "\x00\x00a\uD7FE\uD7FF\uE000\uFFFF\U0010FFFE\U0010FFFF")
}

func TestGreatPairs(t *testing.T) { // P12.3: 512 ranges, unlike ones on both sides
	from, to := make(api.Set, 512), make(api.Set, 512)
	for i := range from {
		from[i] = api.Range{Lo: 10 * i, Hi: 10*i + i%5}
		to[i] = api.Range{Lo: 0x10000 + 10*i, Hi: 0x10000 + 10*i + (i+2)%5}
	}
	from[511].Hi += size(to) - size(from)
	p := rules(api.Rule{Key: row(from), Result: pieces(paired(0, to)), Cursor: 1})
	m := made(t, p)
	for at := 0; at < 5120; at += 500 {
		var text strings.Builder
		for u := at; u < at+500; u++ {
			text.WriteRune(rune(u))
		}
		same(t, p, m, text.String())
	}
}

func TestWhatIsPutBack(t *testing.T) { // P12.3
	for _, x := range [][3]string{
		{"a > | b ; b > c", "aa", "cc"}, {"b > c ; a > | b", "aa", "cc"}, {"a > x | b ; b > y | c ; c > z", "a", "xyz"}, {"a > | bb ; b > | cc ; c > d", "aba", "dddddddddd"}, {"aa > | a", "aaaa", "a"}, {"aa > x | a", "aaaa", "xxxa"}, {"[ab]b > x | @2", "abbb", "xxxb"},
		// In their order, with what stands behind, and with what was put back ahead of it.
		{"a > | bcd", "ax", "bcdx"}, {"a > | bc ; cd > x ; bc > y", "ad", "yd"}, {"a > | bc ; cd > x", "ad", "bx"}, {"ab > | @2 c ; bcd > x", "abd", "x"}, {"abc > | @3 @2 ; cb > x", "abc", "x"}, {"abcd > | @4 @3 @2", "abcd", "dcb"}, {"a > | bbbbbbbb ; bbbbbbb > y", "aa", "ybyb"}, {"abc > @3 | @2 z @3", "abcabc", "cbzccbzc"},
		// Contexts look at it, then at the source.
		{"c } b > x ; a > | cb", "a", "xb"}, {"a > | c ; c } $ > E ; c } b > B", "aba", "BbE"}, {"x > | cb ; c } bd > y", "xdxb", "ybdcbb"}, {"a > | bc ; b } $ > E ; c } $ > F", "a", "bF"},
		// What was put back and taken again has never been done.
		{"a > | b ; b > c ; b { c > !", "aac", "ccc"}, {"a > | bbb ; b > | ccc ; c > | ddd ; d > ", "aaa", ""}, {"ab > |", "aabb", "ab"},
	} {
		runsText(t, x[0], x[1], x[2])
	}
	goesText(t, "a > xyz | vw", "a", "0: 0 1 1 3 2; -1: 3 2 1 1 0; -1: 4 1 1 1 0")
	goesText(t, "aa > | a", "aaa", "0: 0 3 2 0 1; 0: 0 2 2 0 1; -1: 0 1 1 1 0")
	p := rules(api.Rule{Key: slices.Repeat(row(a), 8), Result: slices.Repeat(pieces(unit('b')), 16)})
	if got := same(t, p, made(t, p), "aaaaaaaa"); len(got) != 17 || got[0] != (api.Step{Rule: 0, Left: 8, Took: 8, Back: 16}) || got[16] != (api.Step{Rule: -1, Done: 15, Left: 1, Took: 1, Laid: 1}) {
		t.Errorf("%v", got)
	}
}

func TestContextsOnTheWay(t *testing.T) { // P12.3: what is ahead is what was written, unit by unit
	for _, x := range [][3]string{
		{"x { a > x ; b > x", "baab", "xxxx"}, {"b { a > y ; b > x", "ba", "xa"}, {"a { a > b", "aaaa", "abab"}, {"b { a > ; a > b", "aaaa", "b"}, {"x { a > y ; b > xz", "ba", "xza"}, {"z { a > y ; b > xz", "ba", "xzy"}, {"xz { a > y ; b > xz", "ba", "xzy"}, {"b > ; c { a > y", "cba", "cy"}, {"xyz { a > !", "xyzaxya", "xyz!xya"}, {". . . { a > !", "aaaaaa", "aaa!!!"},
		{"pqrstuvw { a > ! ; b > pqrstuvw", "baab", "pqrstuvw!apqrstuvw"}, {"xyxy { a > !", "xyxyaxya", "xyxy!xya"}, {"y....... { a > !", "yaaaaaaaaa", "yaaaaaaa!a"},
		{"^ { a > !", "aaa", "!aa"}, {"^ { a > ", "aaa", ""}, {"^ { a > | b ; ^ { b > c", "aa", "ca"}, {"^ x { a > !", "xaxa", "x!xa"}, {"a } $ > !", "aaa", "aa!"}, {"^ { a } $ > !", "a", "!"}, {"^ { a } $ > !", "aa", "aa"}, {"^ . { a } . $ > !", "aaa", "a!a"}, {"^ ........ { a > !", "aaaaaaaaaa", "aaaaaaaa!a"}, {"x > ; ^ { a > !", "xxaa", "!a"}, {"^ { . > ", "any\xFFtext", ""},
		{"a } . > ", "aaaa", "a"}, {"a } .. > ", "aaaa", "aa"}, {"a } xyz > !", "axyaxyz", "axy!xyz"},
	} {
		runsText(t, x[0], x[1], x[2])
	}
}

func TestTheLongestRun(t *testing.T) { // P12.3: the longest text, each of its units as heavy as one may be
	var p api.Pass
	for i := range 63 {
		p.Rules = append(p.Rules, api.Rule{Key: row(of(i, i)), Result: pieces(unit(i + 1))})
	}
	text := strings.Repeat("\x00", 16384)
	n := 0
	for s := range stepsOf(t, made(t, p), text) {
		if s.Done != n/64 || s.Left != 16384-n/64 || s.Rule != n%64 && (n%64 != 63 || s.Rule != -1) {
			t.Fatalf("step %d: %v", n, s)
		}
		n++
	}
	if n != 64*16384 {
		t.Errorf("%d steps", n)
	}
	if got, e := made(t, p).Run(text); got != strings.Repeat("\x3F", 16384) || e != api.OK {
		t.Errorf("%.60q, %d", got, e)
	}
	q := read(t, "a > | bbbbbbb ; b > | cccccccc")
	same(t, q, made(t, q), strings.Repeat("a", 1000))
}

// lot is a machine and a text with many kinds of steps.
func lot(t *testing.T) (asked, string, []api.Step) {
	m, text := about(t, read(t, "a > | bb ; b > | cc ; c > d ; xy > z | a ; d { \\b{80} > ")), "axy\x80q\x80éxy\x80"
	l := same(t, m.pass, m.Machine, text)
	if len(l) != 28 || l[15].Rule != 4 || l[17].Rule != -1 {
		t.Fatalf("%d steps: %s", len(l), written(l))
	}
	return m, text, l
}

func TestIteratorsLeftEarly(t *testing.T) { // P12.3, R6
	m, text, want := lot(t)
	seq := stepsOf(t, m.Machine, text)
	for most := range len(want) + 2 {
		var got []api.Step
		if most > 0 {
			for s := range seq {
				got = append(got, s)
				if len(got) == most {
					break
				}
			}
		}
		if !slices.Equal(got, want[:min(most, len(want))]) {
			t.Errorf("the first %d: %s", most, written(got))
		}
	}
	// One who has said no is not asked again.
	for most := 1; most <= len(want); most++ {
		asked := 0
		seq(func(api.Step) bool { asked++; return asked < most })
		if asked != most {
			t.Errorf("asked %d times, not %d", asked, most)
		}
	}
}

func TestIteratorsGoneThroughAgain(t *testing.T) { // P12.3, R6
	m, text, want := lot(t)
	seq := stepsOf(t, m.Machine, text)
	for range 4 {
		if got := slices.Collect(seq); !slices.Equal(got, want) {
			t.Errorf("%s", written(got))
		}
	}
}

func TestIteratorsGoneThroughWithinThemselves(t *testing.T) { // P12.3, R6
	m, text, want := lot(t)
	seq := stepsOf(t, m.Machine, text)
	made, _ := m.Run(text)
	var outer []api.Step
	for s := range seq {
		outer = append(outer, s)
		var inner []api.Step
		for r := range seq {
			inner = append(inner, r)
			if len(inner) == 3 {
				if third := slices.Collect(seq); !slices.Equal(third, want) {
					t.Errorf("the innermost at %d: %s", len(outer), written(third))
				}
				m.runs(t, text, made)
			}
			if len(inner) == len(outer)+3 {
				break
			}
		}
		if !slices.Equal(inner, want[:min(len(outer)+3, len(want))]) {
			t.Errorf("the inner one at %d: %s", len(outer), written(inner))
		}
	}
	if !slices.Equal(outer, want) {
		t.Errorf("%s", written(outer))
	}
}

func TestIteratorsBesideOneAnother(t *testing.T) { // P12.3, R6
	m, text, want := lot(t)
	others := []string{text, "xy\x80a", strings.Repeat("a", 5), ""}
	var steps [][]api.Step
	for _, s := range others {
		steps = append(steps, same(t, m.pass, m.Machine, s))
	}
	// Of one text and of others, step by step in turn; one of them is left on the way.
	type puller struct {
		next func() (api.Step, bool)
		want []api.Step
	}
	var l []puller
	seq := stepsOf(t, m.Machine, text)
	for i, s := range append(others, text, text) {
		from := stepsOf(t, m.Machine, s)
		if i >= len(others) {
			from = seq
		}
		next, stop := iter.Pull(from)
		defer stop()
		l = append(l, puller{next, append(steps, want, want)[i]})
		if i == 1 {
			next()
			stop()
			l[i].want = nil
		}
	}
	for n := range len(want) + 2 {
		for i, x := range l {
			s, is := x.next()
			if is != (n < len(x.want)) || is && s != x.want[n] {
				t.Errorf("step %d of %d: %v, %t", n, i, s, is)
			}
		}
	}
}
