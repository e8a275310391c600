package turn_test

import (
	"slices"
	"strings"
	"testing"

	"respell/api"
	"respell/pass"
	"respell/stream"
	"respell/turn"
	"respell/weigh"
)

// What follows of the chapter's promises: P19.3 (W6), P19.4.

// back is the turned pass of one that can be turned.
func back(t *testing.T, p api.Pass) api.Pass {
	t.Helper()
	turned, n, e := told(t, p)
	if n != 0 || e != api.OK {
		t.Fatalf("%s: %d, %d", brief(p), n, e)
	}
	return turned
}

func run(t *testing.T, p api.Pass, s string) string {
	t.Helper()
	text, e := pass.Run(p, s)
	if e != api.OK {
		t.Fatalf("%s over %.90q: %d", brief(p), s, e)
	}
	return text
}

// streamed is what a pass makes of a text, however long that is.
func streamed(t *testing.T, p api.Pass, s string) string {
	t.Helper()
	x, e := stream.New(p)
	if e != api.OK {
		t.Fatalf("%s: %d", brief(p), e)
	}
	return string(x.Put([]byte(s))) + string(x.Close())
}

// within tells whether all units of a text are those over which a pass is undone.
func within(p api.Pass, s string) bool {
	return !slices.ContainsFunc(unitsByWords(s), func(u int) bool { return !overByWords(p, u) })
}

// comes holds that a text comes back, and is what it was in between.
func comes(t *testing.T, p, turned api.Pass, s string) string {
	t.Helper()
	there := run(t, p, s)
	again := ""
	if len(there) > 16384 {
		again = streamed(t, turned, there)
	} else {
		again = run(t, turned, there)
	}
	if again != s {
		t.Fatalf("%s: %.300q became %.300q, and by %s %.300q", brief(p), s, there, brief(turned), again)
	}
	return there
}

func comesText(t *testing.T, rules string, texts ...string) {
	t.Helper()
	p := read(t, rules)
	turned := back(t, p)
	for _, s := range texts {
		if !within(p, s) {
			t.Errorf("%s: not over %q", rules, s)
		}
		comes(t, p, turned, s)
	}
}

func TestThereAndBack(t *testing.T) { // P19.3, W6
	comesText(t, "", "", "a", "\xE2\x82")
	comesText(t, "[a-c] > @1:[x-z]", "", "abcd", "a", "cba€\xE2\x82", "d", "\xE2a\x82\xAC")
	comesText(t, "a > b ; b > a", "", "ab", "aabb", "abba", "b\xC3a\xA9")
	comesText(t, "a > ae", "a", "e", "ae", "aea", "eae", "aee")
	comesText(t, "x } 1 > y", "x1", "x", "x2", "xx1", "1x1x1")
	comesText(t, "ab > @2@1", "a", "ac", "aaca")
	comesText(t, "\\b{C3} > E", "\xC3", "\xC3\xA8x", "\xC3é\xA9", "é", "x\xC3", "\xC3\xC3\xC3", "\xC3\x28\xA9")
	comesText(t, "\\b{E2}\\b{82} > xy ; \\b{E2} > z", "\xE2\x82", "\xE2\xE2\x82", "\xE2", "\xE2\x82\xE2\x82\x82", "\x82\xE2")
	comesText(t, "a } 1 > x ; a > x", "a1", "a", "aa1a")
	comesText(t, "^ { a > x ; a } $ > y ; b > z", "a", "ab", "ba", "bab", "aba", "aaa", "cac")
	comesText(t, "^ 1 { a } 2 $ > €", "1a2", "11a2", "1a22", "1a2a", "a", "12")
	comesText(t, "a > x ; ab > y ; abc > z", "a", "ab", "abc", "aab", "abab", "abcab", "abb", "acb", "c", "b")
	comesText(t, "a > é ; 1 { bb } 2 > €€ ; c } 3 > \\x{10FFFF}a", "abb", "1bb2", "1bbb2", "1abb2c3", "cc3", "\xE21bb2\x82\xAC")
	comesText(t, "[ab][cd]e > z@2@1:[xy]", "ace", "ade", "bde", "be", "aace", "acee", "abde")
}

func TestExampleOfTheWhole(t *testing.T) { // 8 of DOC.md
	p := read(t, "[a-c] > @1:[x-z] ;")
	if s := run(t, p, "abcd"); s != "xyzd" {
		t.Errorf("%q", s)
	}
	if s := run(t, back(t, p), "xyzd"); s != "abcd" {
		t.Errorf("%q", s)
	}
	comesText(t, "[a-c] > @1:[x-z]", "abcd", "wvu€ABC\xE2\x82", strings.Repeat("abcd", 4096))
}

func TestAnyTextsComeBack(t *testing.T) { // P19.3, W6
	few, lot, strays, did, wide, none := 0, 0, 0, 0, 0, 0
	for _, m := range []maker{made(201, 0, 0), made(202, 3, 0)} {
		for range 2500 {
			p := m.fine(pick(m, 1, 3, 6, 20))
			turned := back(t, p)
			// Of the units over which it does, as these are known.
			units := slices.DeleteFunc(slices.Concat(loud, quiet), func(u int) bool { return !overByWords(p, u) })
			comes(t, p, turned, "")
			for range 6 {
				s := m.text(p, pick(m, 5, 15, 60), units)
				if !within(p, s) {
					// Strays that came together.
					none++
					continue
				}
				there := comes(t, p, turned, s)
				if strings.ContainsFunc(s, func(r rune) bool { return r == 0xFFFD }) {
					strays++
				}
				if there != s {
					did++
				}
				if len(there) > len(s) {
					wide++
				}
				if n := len(unitsByWords(s)); n < 4 {
					few++
				} else {
					lot++
				}
			}
		}
	}
	if few < 3000 || lot < 12000 || strays < 12000 || did < 11000 || wide < 4000 || none > 3000 {
		t.Errorf("%d short texts, %d others, %d with strays, %d that became others, %d longer ones; %d not asked: the passes are too tame or too wild", few, lot, strays, did, wide, none)
	}
}

// rows is all rows of some texts, so many at most.
func rows(few []string, most int) []string {
	l := []string{""}
	for from := 0; most > 0; most-- {
		end := len(l)
		for ; from < end; from++ {
			for _, x := range few {
				l = append(l, l[from]+x)
			}
		}
	}
	return l
}

// All short texts over some units, so that none is too rare to come by chance.
func TestAllShortTexts(t *testing.T) { // P19.3, W6
	for _, x := range []struct {
		rules string
		few   []string
	}{
		{"a > b ; b > a", []string{"a", "b", "\xC3", "\xA9", "é"}},
		{"\\b{C3} > x ; \\b{A9} } é > yz ; a > p ; ab > q", []string{"\xC3", "\xA9", "é", "a", "b"}},
		{"é > \\x{E9}\\x{E9} ; 1 { a > xé", []string{"\xC3", "\xA9", "a", "1", "é"}},
		{"^ { a > xx ; a } $ > xy ; aa > ya ; ^ { b } $ > z", []string{"a", "b", "c", "\xC3"}},
		{"[ab] > @1 ; [ab][ab] > y@2@1", []string{"a", "b", "c", "\xF0"}},
		{"[ab] > @1:[xy] ; [ab]c > v@1 ; 1 { [ab]c > v@1", []string{"a", "b", "c", "1"}},
		{"1 { a > é ; 1 { b } 1 > € ; ba } 1 > è", []string{"a", "b", "1", "\xE2", "\x82"}},
		{"\\b{F0}\\b{90}\\b{80} > x ; \\b{F0}\\b{90} > y ; \\b{F0} > z", []string{"\xF0", "\x90", "\x80", "a"}},
		{". > @1", nil}, {"[:rune:] > @1", []string{"\xC3", "\xA9", "a"}}, {"^ 1 { a > x ; a } 1 $ > y ; aa > z", []string{"a", "1"}},
	} {
		if x.few == nil {
			// It writes strays.
			isText(t, x.rules, 0, api.ErrTurnResult)
			continue
		}
		p := read(t, x.rules)
		turned, asked := back(t, p), 0
		l := rows(x.few, 6)
		for _, s := range l {
			if within(p, s) {
				comes(t, p, turned, s)
				asked++
			}
		}
		if asked < len(l)/3 {
			t.Errorf("%s: only %d of %d texts", x.rules, asked, len(l))
		}
	}
}

// Over is no smaller than it must be in these: a unit that is not in it makes a text that does not come back.
func TestOtherTextsNeedNotComeBack(t *testing.T) { // P19.2
	for _, x := range []struct{ rules, text, comes string }{
		{"[a-c] > @1:[x-z]", "abxc", "abac"}, {"[a-c] > @1:[x-z]", "x", "a"}, {"x } 1 > y", "y1", "x1"}, {"\\b{C3} > E", "E", "\xC3"}, {"a } 1 > x ; a > x", "x", "a"}, {"ab > @2@1", "ba", "ab"},
	} {
		p := read(t, x.rules)
		if within(p, x.text) {
			t.Errorf("%s: over %q", x.rules, x.text)
		}
		if s := run(t, back(t, p), run(t, p, x.text)); s != x.comes {
			t.Errorf("%s over %q: %q, not %q", x.rules, x.text, s, x.comes)
		}
	}
	// Drawn ones: there are such texts, so that Over tells something.
	m := made(203, 0, 0)
	lost := 0
	for range 1500 {
		p := m.fine(6)
		turned := back(t, p)
		for range 4 {
			// What is written may stand there already.
			s := m.text(turned, 20, slices.Concat(loud, quiet))
			if !within(p, s) && run(t, turned, run(t, p, s)) != s {
				lost++
			}
		}
	}
	if lost < 500 {
		t.Errorf("only %d texts do not come back", lost)
	}
}

func TestLongTextsComeBack(t *testing.T) { // P19.3: longer than MaxText on the way, too
	for _, x := range []struct{ rules, text string }{
		{"a > aaaaaaaa", "a"}, {"a > \\x{10FFFF}\\x{10FFFF}b", "a"}, {"a > xxxxxxxx", "ab\xE2"}, {"\\b{FF} > €€€€€€€€", "\xFF"}, {"ab > €é ; a > é ; 1 { b > €€", "ab1ba\xC3"}, {"[ab]c > x @1 ; b > y", "abcb"}, {"abcdefgh > x", "abcdefgh"}, {"^ { a > xx ; a } $ > yy", "a"},
	} {
		p := read(t, x.rules)
		turned := back(t, p)
		for _, n := range []int{100, 16384} {
			s := strings.Repeat(x.text, n/len(x.text))
			if !within(p, s) {
				t.Fatalf("%s: not over %q", x.rules, x.text)
			}
			there := comes(t, p, turned, s)
			if again := streamed(t, turned, there); again != s {
				t.Errorf("%s: a stream gives %.90q", x.rules, again)
			}
		}
	}
	m := made(204, 0, 0)
	for range 60 {
		p := m.fine(10)
		units := slices.DeleteFunc(slices.Concat(loud, quiet), func(u int) bool { return !overByWords(p, u) })
		if s := m.text(p, 1500, units); within(p, s) {
			comes(t, p, back(t, p), s)
		}
	}
}

func TestTheTurnedPassMayBe(t *testing.T) { // P19.4
	twice, other := 0, 0
	for _, m := range []maker{made(205, 0, 0), made(206, 3, 0)} {
		for range 2500 {
			p := m.fine(pick(m, 1, 3, 8))
			turned := back(t, p)
			if n, e := weigh.Check(turned); n != 0 || e != api.OK {
				t.Fatalf("%s: %d, %d", brief(turned), n, e)
			}
			// Each unit weighs 1, as nothing is put back.
			if n := weigh.Weight(turned, pick(m, loud...)); n != 1 {
				t.Fatalf("%s: a unit weighs %d", brief(turned), n)
			}
			again, _, e := told(t, turned)
			if e != api.OK {
				other++
				continue
			}
			twice++
			for range 6 {
				s := m.text(p, 20, slices.Concat(loud, quiet))
				if want, got := run(t, p, s), run(t, again, s); got != want {
					t.Fatalf("%s over %q: %q, and turned twice %q", brief(p), s, want, got)
				}
			}
			// Turned three times it is as turned once.
			if three, _, e := told(t, again); e != api.OK || !samePass(three, turned) {
				t.Fatalf("%s turned three times: %s, %d; turned once %s", brief(p), brief(three), e, brief(turned))
			}
		}
	}
	if twice < 1500 || other < 1000 {
		t.Errorf("%d passes turned twice, %d once: too tame or too wild", twice, other)
	}
}

func TestTurnedTwice(t *testing.T) { // P19.4
	for _, text := range []string{"", "a > x", "a > @1", "a > @1@1:[b]", "ab > @2@1", "[a-c] > @1:[x-z]", "[ab][cd]e > @2z@1:[xy]", "a > x ; 1 { a > x ; bc } $ > yz", "aaaa > x", "[ab]c[de] > @3@1:[xy]"} {
		p := read(t, text)
		again := back(t, back(t, p))
		for _, s := range rows([]string{"a", "b", "c", "e", "1"}, 4) {
			if want, got := run(t, p, s), run(t, again, s); got != want {
				t.Fatalf("%s over %q: %q, and turned twice %q", text, s, want, got)
			}
		}
	}
	// Not all turned passes can be turned.
	for text, code := range map[string]api.Errno{"a > x ; a > y": api.ErrTurnTwice, "a > x ; ab > y": api.ErrTurnPrefix, "\\b{C3} > x": api.ErrTurnResult} {
		if q, _, e := turn.Turn(back(t, read(t, text))); e != code || q.Rules != nil {
			t.Errorf("%s, turned: %s, %d, not %d", text, brief(q), e, code)
		}
	}
}
