package round_test

import (
	"fmt"
	"strings"
	"testing"

	"respell/api"
	"respell/names"
	"respell/parse"
	"respell/round"
	"respell/turn"
)

// How passes are written in these tests: as a rules' text has them, or by hand where that can't.

// read is the pass of a rules' text; the last ; may be left out.
func read(t *testing.T, text string) api.Pass {
	t.Helper()
	if strings.TrimSpace(text) != "" && !strings.HasSuffix(text, ";") {
		text += " ;"
	}
	lines, fault := parse.Parse(text)
	if fault.Code != api.OK {
		t.Fatalf("%s: %v", text, fault)
	}
	passes, line, e := names.Passes(lines)
	if e != api.OK || len(passes) != 1 {
		t.Fatalf("%s: %d passes, %d, %d", text, len(passes), line, e)
	}
	return passes[0]
}

func of(n ...int) api.Set {
	var s api.Set
	for i := 0; i+1 < len(n); i += 2 {
		s = append(s, api.Range{Lo: n[i], Hi: n[i+1]})
	}
	return s
}

func row(l ...api.Set) []api.Set { return l }

func pieces(l ...api.Piece) []api.Piece { return l }

func unit(u int) api.Piece               { return api.Piece{Kind: api.PUnit, Unit: u} }
func again(k int) api.Piece              { return api.Piece{Kind: api.PCopy, Key: k} }
func paired(k int, to api.Set) api.Piece { return api.Piece{Kind: api.PPair, Key: k, To: to} }

func rules(l ...api.Rule) api.Pass { return api.Pass{Rules: l} }

func brief(p api.Pass) string { return fmt.Sprintf("%.400s", fmt.Sprint(p)) }

const (
	maxText  = 16384
	maxRune  = 0x10FFFF
	firstRaw = 0x110080
	lastRaw  = 0x1100FF
	abc      = "[a-c] > @1:[x-z]"
)

// comes holds what Comes answers against the words, and against what is wanted.
func comes(t *testing.T, text, s string, want bool, at int) {
	t.Helper()
	c, _ := told(t, read(t, text), s)
	if c != (answer{want, at, api.OK}) {
		t.Errorf("Comes of %s over %.60q: %v; want %t, %d", text, s, c, want, at)
	}
}

// sure is likewise for Sure.
func sure(t *testing.T, text, s string, want bool) {
	t.Helper()
	_, c := told(t, read(t, text), s)
	if c != (answer{is: want}) {
		t.Errorf("Sure of %s over %.60q: %v; want %t", text, s, c, want)
	}
}

func TestExamples(t *testing.T) { // P20.1, P20.2
	comes(t, abc, "abcd", true, 0)
	comes(t, abc, "abxc", false, 2)
	comes(t, abc, "", true, 0)
	sure(t, abc, "abcd", true)
	sure(t, abc, "x", false)
	sure(t, abc, "dcba", true)
	comesNot(t, read(t, "a > "), "b", api.ErrTurnResult)
	turned, _, e := turn.Turn(read(t, abc))
	if want := read(t, "[x-z] > @1:[a-c]"); e != api.OK || fmt.Sprint(turned) != fmt.Sprint(want) {
		t.Errorf("%s, %d; want %s", brief(turned), e, brief(want))
	}
}

func TestExampleOfTheWhole(t *testing.T) { // 8 of DOC.md
	for _, s := range []string{"abcd", "wvu€ABC\xE2\x82", strings.Repeat("abcd", 4096)} {
		comes(t, abc, s, true, 0)
		sure(t, abc, s, true)
	}
	for n, s := range []string{"xabc", "aybc", "abzc", "abcx"} {
		comes(t, abc, s, false, n)
		sure(t, abc, s, false)
	}
}

func TestTextsThatComeBack(t *testing.T) { // P20.1
	for text, l := range map[string][]string{
		"":                            {"", "a", "\xE2\x82", "é€\U0010FFFF"},
		abc:                           {"a", "dd", "cba€\xE2\x82", "\xE2a\x82\xAC", "\xE2a\x82", "w{"},
		"a > b ; b > a":               {"a", "b", "ab", "aabb", "b\xC3a\xA9", "\xFF"},
		"a > ae":                      {"a", "e", "ae", "aea", "eae", "aee"},
		"x } 1 > y":                   {"x1", "x", "x2", "xx1", "1x1x1"},
		"\\b{C3} > E":                 {"\xC3", "\xC3\xA8x", "\xC3é\xA9", "é", "\xC3\x28\xA9"},
		"\\b{E2}\\b{82} > é":          {"\xE2\x82", "\xE2\xE2\x82\x82", "€", "x\xE2\x82€\xE2\x82"},
		"^ { a > x ; a } $ > y":       {"a", "ab", "ba", "aba", "aaa"},
		"\\x{FFFD} > x ; \\b{FF} > y": {"\uFFFD", "\xFF\uFFFD\xFF", "\uFFFD\xFE"},
		// Not sure to, and yet they do.
		"ab > @2@1":     {"b", "bb", "bcab", "cb", "abb"},
		"x } 2 > x1":    {"x", "x1", "x2", "xx2", "2x"},
		"1 { a > yy":    {"y", "ya", "1y", "y1"},
		"^ { a > xy":    {"x", "xx", "ax", "xa"},
		"[ab]c > z@1":   {"z", "zc", "zzc", "cz"},
		"\\b{C3} > EF ": {"E", "EE", "E\xA9", "FE"},
	} {
		for _, s := range l {
			comes(t, text, s, true, 0)
		}
	}
}

func TestWhereTextsPart(t *testing.T) { // P20.1
	for _, x := range []struct {
		text, s, again string
		at             int
	}{
		// At the first byte.
		{abc, "x", "a", 0}, {abc, "xa", "aa", 0}, {"é > x", "x", "é", 0}, {"x > é", "é", "x", 0}, {"\\b{C3} > E", "E", "\xC3", 0}, {"\\b{C3} > E", "E\xA9", "é", 0}, {"abc > x", "xx", "abcabc", 0}, {"a > xyz", "xyz", "a", 0},
		// In the middle; of several the first one.
		{abc, "abxc", "abac", 2}, {abc, "ddxdxd", "ddadad", 2}, {abc, "éxé", "éaé", 2}, {abc, "\xE2\x82x", "\xE2\x82a", 2}, {abc, "€\xFFxx", "€\xFFaa", 4}, {abc, "azb", "acb", 1}, {"a > xyz", "bxyzd", "bad", 1}, {"ab > x", "cxd", "cabd", 1}, {"ab > a", "caad", "cababd", 2}, {"\\b{C3} > E", "aE", "a\xC3", 1}, {"\\b{C3} > E", "\xC3E", "\xC3\xC3", 1},
		// At the last byte.
		{abc, "abcx", "abca", 3}, {abc, "€\xE2x", "€\xE2a", 4}, {abc, strings.Repeat("d", 9999) + "y", strings.Repeat("d", 9999) + "b", 9999},
		// Within a rune's bytes: each of them is the first one that is another one.
		{"é > è", "è", "é", 1}, {"é > è", "xè", "xé", 2}, {"é > ê", "éê", "éé", 3}, {"€ > ₫", "₫", "€", 2}, {"€ > ₫", "a€₫a", "a€€a", 6}, {"€ > ∀", "x∀", "x€", 2}, {"\\x{10FFFE} > \\x{10FFFF}", "\U0010FFFF", "\U0010FFFE", 3}, {"\\x{10FFFF} > \\x{10F000}", "a\U0010F000", "a\U0010FFFF", 3}, {"\\x{10FFFF} > \\x{100000}", "é\U00100000", "é\U0010FFFF", 3}, {"ab > €", "₫€", "₫ab", 3}, {"é > \\x{C3}", "é\u00C3", "éé", 3},
		// Of a rune and strays.
		{"\\b{E2} > €", "€", "\xE2", 1}, {"\\b{E2} > €", "a€x", "a\xE2x", 2}, {"\\b{E2}\\b{82} > €", "€", "\xE2\x82", 2}, {"\\b{E2}\\b{82} > €", "€€", "\xE2\x82\xE2\x82", 2}, {"\\b{F0}\\b{90}\\b{80} > \\x{10000}", "\U00010000", "\xF0\x90\x80", 3}, {"\\b{F0}\\b{90}\\b{80} > \\x{10000}", "\U00010000\x80", "\U00010000", 4}, {"\\b{E2}\\b{82} > é", "é\xAC", "€", 0}, {"\\b{FF} > \\x{FFFD}", "\xFF\uFFFD", "\xFF\xFF", 1}, {"\\b{EF} > \\x{FFFD}", "\uFFFDa", "\xEFa", 1},
		// At the end of the text, which is the shorter one.
		{"x1 > x", "x", "x1", 1}, {"x1 > x", "abx", "abx1", 3}, {"€é > €", "a€", "a€é", 4}, {"xyzxyzxy > x", "x", "xyzxyzxy", 1}, {"a\\b{C3} > a", "\xC3a", "\xC3a\xC3", 2},
		// At the end of what comes back, which is the shorter one.
		{"x } $ > x1", "x1", "x", 1}, {"x } $ > x1", "abx1", "abx", 3}, {"€ } $ > €é", "a€é", "a€", 4}, {"1 { x } $ > xxxxxxxx", "1xxxxxxxx", "1x", 2}, {"x } $ > xy ", "xyxy", "xyx", 3},
		// Both go on, and one is the longer one.
		{"x1 > x", "xx", "x1x1", 1}, {"x } 2 > x1", "x12", "x2", 1}, {"x } 2 > x1", "ax1x12", "ax1x2", 4}, {"ab > aa", "aa", "ab", 1}, {"aaa > a", "ba", "baaa", 2},
	} {
		if p := read(t, x.text); backOf(t, p, x.s) != answered(x.s, x.again, x.at) {
			t.Errorf("%s over %q: %q comes back, not %q", x.text, x.s, backOf(t, p, x.s), x.again)
			continue
		}
		comes(t, x.text, x.s, x.s == x.again, x.at)
	}
}

// answered is what comes back, if it parts from the text where a test says.
func answered(s, again string, at int) string {
	if s != again && (s[:at] != again[:at] || at < min(len(s), len(again)) && s[at] == again[at]) {
		return "(the test is wrong)"
	}
	return again
}

func TestLongTexts(t *testing.T) { // P20.1, P20.2: of MaxText bytes
	whole := strings.Repeat("d", maxText)
	for _, s := range []string{whole, strings.Repeat("abcd", maxText/4), strings.Repeat("é", maxText/2), strings.Repeat("€", maxText/3) + "a", strings.Repeat("\xFF", maxText), strings.Repeat("\U0010FFFF", maxText/4)} {
		if len(s) != maxText {
			t.Fatalf("%d bytes", len(s))
		}
		comes(t, abc, s, true, 0)
		sure(t, abc, s, true)
	}
	for _, at := range []int{0, 1, 8191, 8192, maxText - 2, maxText - 1} {
		s := whole[:at] + "z" + whole[at+1:]
		comes(t, abc, s, false, at)
		sure(t, abc, s, false)
	}
	// What the pass makes of it is as long as may be; what comes back may be longer.
	comes(t, "a > xx", strings.Repeat("a", maxText/2), true, 0)
	comes(t, "a > é", strings.Repeat("a", maxText/2), true, 0)
	comes(t, "a > xxxxxxxx", whole[:maxText-16]+"aa", true, 0)
	comes(t, "a > xx", whole[:maxText-2]+"a", true, 0)
	comes(t, "a > xx", whole[:maxText-2]+"xx", false, maxText-2)
	comes(t, "ab > x", strings.Repeat("ab", maxText/2), true, 0)
	comes(t, "ab > x", strings.Repeat("x", maxText), false, 0)
	comes(t, "x1 > x", whole[:maxText-1]+"x", false, maxText)
	comes(t, "x\\x{10FFFF}\\x{10FFFF}\\x{10FFFF}\\x{10FFFF}\\x{10FFFF}\\x{10FFFF}\\x{10FFFF} > x", strings.Repeat("x", maxText), false, 1)
}

func TestUnitsOfATextThatIsSure(t *testing.T) { // P20.2
	good := []string{"", "a", "b", "c", "d", "w", "{", "\x00", "é", "€", "\U0010FFFF", "\x80", "\xFF", "\xE2\x82"}
	for _, s := range good {
		sure(t, abc, s, true)
	}
	for _, bad := range []string{"x", "y", "z"} {
		sure(t, abc, bad, false)
		for _, s := range good {
			sure(t, abc, s+bad, false)
			sure(t, abc, bad+s, false)
			for _, behind := range good {
				sure(t, abc, s+bad+behind, false)
			}
		}
	}
	// At each place; units of all widths.
	for text, bad := range map[string]string{abc: "y", "a > é": "é", "[ab] > @1:[€₫]": "₫", "\\b{E2} > \\x{10FFFF}": "\U0010FFFF", "\\b{FF} > \\x{FFFD}": "\uFFFD", "a > \\x{0}": "\x00"} {
		l := []string{"a", "\xE2", "\xFF", "b", "𐀀", "\xF0", "ü", "%", "•", "\x80"}
		sure(t, text, strings.Join(l, ""), true)
		for n := range len(l) + 1 {
			sure(t, text, strings.Join(l[:n], "")+bad+strings.Join(l[n:], ""), false)
		}
	}
}

func TestStraysAreNoRunes(t *testing.T) { // P20.1, P20.2
	// A stray is never in an image. The rune that a range has for it may be one, and so may the rune of its number.
	sure(t, "a > \\x{FFFD}", "\xFF", true)
	sure(t, "a > \\x{FFFD}", "\xEF\xBF", true)
	sure(t, "a > \\x{FFFD}", "\uFFFD", false)
	sure(t, "a > \\x{FFFD}", "\xEF\uFFFD\xBF", false)
	comes(t, "a > \\x{FFFD}", "\xFFa\xFE", true, 0)
	comes(t, "a > \\x{FFFD}", "\xFF\uFFFD\xFE", false, 1)
	for b := 0x80; b <= 0xFF; b++ {
		text := fmt.Sprintf("a > \\x{%X}", b)
		sure(t, text, string([]byte{byte(b)}), true)
		sure(t, text, string(rune(b)), false)
		comes(t, text, string([]byte{byte(b)}), true, 0)
		comes(t, text, string(rune(b)), false, 0)
		sure(t, fmt.Sprintf("\\b{%X} > \\x{%X}", b, b), string([]byte{byte(b)}), true)
		sure(t, fmt.Sprintf("\\b{%X} > \\x{%X}", b, b), string(rune(b)), false)
		// Within a rune it is none.
		sure(t, text, "\U0001F600€é\U0010FFFF", b != 0xE9)
	}
}

func TestUnitsAtTheEdgesOfOver(t *testing.T) { // P20.2
	p := read(t, "[a-d] > @1:[\\x{7F}\\x{7FF}\\x{D7FF}\\x{10FFFF}] ; [e-h] > @1:[\\x{0}\\x{80}\\x{800}\\x{E000}] ; [i-m] > @1:[\\x{FFFD}-\\x{10001}]")
	gone := of(0, 0, 0x7F, 0x80, 0x7FF, 0x800, 0xD7FF, 0xD7FF, 0xE000, 0xE000, 0xFFFD, 0x10001, maxRune, maxRune)
	for _, r := range gone {
		for u := r.Lo - 2; u <= r.Hi+2; u++ {
			s := bytesOf(u)
			if u < 0 || u > maxRune || 0xD800 <= u && u <= 0xDFFF {
				continue
			}
			if is, e := round.Sure(p, s); is != !has(gone, u) || e != api.OK {
				t.Errorf("%X: %t, %d", u, is, e)
			}
			if is, at, e := round.Comes(p, s); is != !has(gone, u) || e != api.OK || is && at != 0 {
				t.Errorf("%X: %t, %d, %d", u, is, at, e)
			}
		}
	}
	for u := firstRaw; u <= lastRaw; u++ {
		if is, e := round.Sure(p, bytesOf(u)); !is || e != api.OK {
			t.Errorf("%X: %t, %d", u, is, e)
		}
	}
}
