package parts_test

import (
	"fmt"
	"slices"
	"strings"
	"testing"
	"unicode/utf8"

	"respell/api"
	"respell/names"
	"respell/parse"
	"respell/parts"
	"respell/utf"
	"respell/weigh"
)

// How passes are written in these tests: as a rules' text has them, or by hand where that can't.

// read is the pass of a rules' text; the last ; may be left out.
func read(t *testing.T, text string) api.Pass {
	t.Helper()
	if strings.TrimSpace(text) != "" && !strings.HasSuffix(text, ";") {
		text += " ;"
	}
	lines, fault := parse.Parse(text)
	if fault.Code != api.OK {
		t.Fatalf("%s: %v", text, fault)
	}
	passes, line, e := names.Passes(lines)
	if e != api.OK || len(passes) != 1 {
		t.Fatalf("%s: %d passes, %d, %d", text, len(passes), line, e)
	}
	return passes[0]
}

func of(n ...int) api.Set {
	var s api.Set
	for i := 0; i+1 < len(n); i += 2 {
		s = append(s, api.Range{Lo: n[i], Hi: n[i+1]})
	}
	return s
}

func row(l ...api.Set) []api.Set { return l }

func pieces(l ...api.Piece) []api.Piece { return l }

func unit(u int) api.Piece               { return api.Piece{Kind: api.PUnit, Unit: u} }
func again(k int) api.Piece              { return api.Piece{Kind: api.PCopy, Key: k} }
func paired(k int, to api.Set) api.Piece { return api.Piece{Kind: api.PPair, Key: k, To: to} }

func rules(l ...api.Rule) api.Pass { return api.Pass{Rules: l} }

// long leaves out what takes long with the race detector, and shows it nothing that other tests do not.
func long(t *testing.T) {
	t.Helper()
	if testing.Short() {
		t.Skip("it takes long")
	}
}

func brief(p api.Pass) string { return fmt.Sprintf("%.400s", fmt.Sprint(p)) }

const (
	maxRune  = 0x10FFFF
	firstRaw = 0x110080
	lastRaw  = 0x1100FF
)

var (
	a   = of('a', 'a')
	abc = of('a', 'c')
	all = of(0, 0xD7FF, 0xE000, maxRune, firstRaw, lastRaw)
)

// What the chapter says of safe places, worked out anew: unit by unit, and set by set.

func has(s api.Set, u int) bool {
	return slices.ContainsFunc(s, func(r api.Range) bool { return r.Lo <= u && u <= r.Hi })
}

func quietByWords(p api.Pass, u int) bool {
	for _, r := range p.Rules {
		for _, l := range [][]api.Set{r.Ante, r.Key, r.Post} {
			if slices.ContainsFunc(l, func(s api.Set) bool { return has(s, u) }) {
				return false
			}
		}
	}
	return true
}

// unitByWords is the unit with which a text begins, and how many bytes it has.
func unitByWords(s string) (int, int) {
	r, n := utf8.DecodeRuneInString(s)
	if r == utf8.RuneError && n == 1 {
		return 0x110000 + int(s[0]), 1
	}
	return int(r), n
}

func safeByWords(p api.Pass, s string) []int {
	var l []int
	known := map[int]bool{}
	for at := 0; at < len(s); {
		u, n := unitByWords(s[at:])
		at += n
		if _, is := known[u]; !is {
			known[u] = quietByWords(p, u)
		}
		if known[u] && at != len(s) {
			l = append(l, at)
		}
	}
	return l
}

// safe holds what Safe tells of a pass that may be against the chapter's words.
func safe(t *testing.T, p api.Pass, s string) []int {
	t.Helper()
	got, e := parts.Safe(p, s)
	if want := safeByWords(p, s); !slices.Equal(got, want) || e != api.OK {
		t.Fatalf("%s over %.90q: %.200s, %d; want %.200s", brief(p), s, fmt.Sprint(got), e, fmt.Sprint(want))
	}
	return got
}

// tells holds what Safe tells against places, and these against the chapter's words.
func tells(t *testing.T, p api.Pass, s string, want ...int) {
	t.Helper()
	if got := safe(t, p, s); !slices.Equal(got, want) {
		t.Errorf("%s over %.90q: %v; want %v", brief(p), s, got, want)
	}
}

func tellsText(t *testing.T, rules, s string, want ...int) {
	t.Helper()
	tells(t, read(t, rules), s, want...)
}

func TestExamplesOfSafe(t *testing.T) { // P17.1
	tellsText(t, "^ { a > A ; b } $ > B", "ab ab", 3)
	tellsText(t, "a > b", "ab..", 2, 3)
	tellsText(t, ". > x", "ab")
	tellsText(t, "a > b", "\xE2\x82a", 1, 2)
}

func TestQuietUnits(t *testing.T) { // P17.1
	for _, x := range []struct {
		rules, text string
		want        []int
	}{
		// In a key, at each of its places; ahead of it; behind it; in the first rule and in the last one.
		{"abc > x", "abcxabc", []int{4}}, {"ab { c > x", "abcx.", []int{4}}, {"c } ab > x", "abcx.", []int{4}}, {"a > x ; b > x ; c > x", "abcx.", []int{4}}, {"q > ; a } b > ; c { d > ; e > ; fg > h", "abcdefgqh.", []int{9}},
		// What is written does not count, whichever way it is.
		{"a > bcd", "abcd.", []int{2, 3, 4}}, {"a > | bcd", "abcd.", []int{2, 3, 4}}, {"[ab] > @1:[xy]", "abxy.", []int{3, 4}}, {"[ab] > @1:[bc]", "abc.", []int{3}}, {"x { [ab] } c > @1:[xy]", "abxyc", []int{4}}, {"[a-c] > | @1:[x-z]", "axbyczz", []int{2, 4, 6}},
		// Nor does that a rule wants the beginning or the end, or that it can fit nowhere.
		{"^ { a > x", "aba", []int{2}}, {"a } $ > x", "aba", []int{2}}, {"a } b $ > x", "abcba", []int{3}}, {"^ b { a > x", "abcba", []int{3}},
		// The first unit, and the last one.
		{"a > x", ".a", []int{1}}, {"a > x", "a.", nil}, {"a > x", ".a.", []int{1}}, {"a > x", ".", nil}, {"a > x", "a", nil}, {"a > x", "..", []int{1}}, {"a > x", "aa", nil}, {"a > x", "", nil}, {"", "", nil}, {"", "a", nil}, {"a > x", "€a€", []int{3}}, {"a > x", "€", nil}, {"a > x", "\xE2\x82", []int{1}}, {"a > x", "\xE2", nil},
		// Runes of one to four bytes, at the edges of sets.
		{"a > x", ".é€\U00010000a", []int{1, 3, 6, 10}}, {"[b-d] > x", "abcde.", []int{1, 5}}, {"é > x", "éèé€é.", []int{4, 9}}, {"€ > x", "€\u20AB\u20AD€.", []int{6, 9}}, {"\\x{10000} > x", "\U00010000\U00010001\U00010000\uFFFF.", []int{8, 15}}, {"[\\x{0}-\\x{7F}] > x", "a\u0080b\u07FFc", []int{3, 6}}, {"[\\x{D7FF}\\x{E000}] > x", "\uD7FE\uD7FF\uE000\uE001.", []int{3, 12}}, {"[:rune:] > x", "a\xC3é\x80\U0010FFFF", []int{2, 5}},
		// Strays: each by itself, and never what belongs to a rune.
		{"\\b{80} > x", "\x80\x81€\x80.", []int{2, 5}}, {"\\b{E2} > x", "\xE2\x82€\xE2.", []int{2, 5}}, {"€ > x", "\xE2\x82\xE2\x82\xAC\xAC.", []int{1, 2, 6}}, {"[:stray:] > x", "a\xC3é\x80\uFFFD.", []int{1, 4, 8}}, {"\\x{FFFD} > x", "\uFFFD\xEF\xBF\xFF\uFFFD\xFD", []int{4, 5, 6}}, {"é > x", "\xC3\xC3\xA9\xA9", []int{1}}, {"a > x", "\xF0\x90\x80a\xF0\x90\x80\x80a", []int{1, 2, 3, 8}}, {"[\\b{80}-\\b{BF}] > x", "\x80\xC0\xBF\xFF\x90", []int{2, 4}},
	} {
		tellsText(t, x.rules, x.text, x.want...)
	}
}

// twice is runes of two bytes, all unlike, and each unlike its neighbours in number.
func twice(n int) string {
	var b strings.Builder
	for i := range n {
		b.WriteRune(rune(0x80 + 7*i%1920))
	}
	return b.String()
}

func TestManyUnlikeUnits(t *testing.T) { // P17.1: more of them than a set has ranges
	for _, n := range []int{511, 512, 513, 1023, 1024, 1025, 1919, 1920, 4000} {
		text := twice(n)
		tells(t, api.Pass{}, text, places(n, 2)...)
		for _, rules := range []string{"a > x", "[\\x{80}-\\x{87}] > x", "\\x{87} > ; \\x{7FF} > ; \\x{79} > x", "[\\x{100}-\\x{6FF}] > x"} {
			safe(t, read(t, rules), text)
		}
	}
	// Every other rune of three bytes, so that no two of them touch.
	var text strings.Builder
	for u := 0x1000; text.Len()+3 <= 16384; u += 2 {
		text.WriteRune(rune(u))
	}
	n := text.Len() / 3
	tells(t, read(t, "a > x"), text.String(), places(n, 3)...)
	tells(t, read(t, "\\x{1002} } \\x{1004} > x"), text.String(), slices.Delete(places(n, 3), 1, 3)...)
	// Sets that have every other one of these, in all 512 ranges.
	var p api.Pass
	for from := 0x1000; from < 0x1000+2*n; from += 4 * 512 {
		var s api.Set
		for i := range 512 {
			s = append(s, api.Range{Lo: from + 4*i, Hi: from + 4*i})
		}
		p.Rules = append(p.Rules, api.Rule{Key: row(s)})
	}
	if got := safe(t, p, text.String()); len(got) != (n-1)/2 {
		t.Errorf("%d places of %d units", len(got), n)
	}
}

// places is the borders between n units of so many bytes each.
func places(n, width int) []int {
	var l []int
	for i := 1; i < n; i++ {
		l = append(l, i*width)
	}
	return l
}

func TestTheGreatestSets(t *testing.T) { // P17.1: as many rules, sets and ranges as may be
	long(t)
	n, loud := 0, map[int]bool{}
	next := func() []api.Set {
		var l []api.Set
		for range 8 {
			s := make(api.Set, 512)
			for i := range s {
				u := 0x10000 + 2000*i + 2*n%1990
				s[i] = api.Range{Lo: u, Hi: u}
				loud[u] = true
			}
			l = append(l, s)
			n++
		}
		return l
	}
	var p api.Pass
	for range 256 {
		p.Rules = append(p.Rules, api.Rule{Ante: next(), Key: next(), Post: next()})
	}
	var text strings.Builder
	var want []int
	for i := range 4096 {
		u := 0x10000 + 251*i
		text.WriteRune(rune(u))
		if !loud[u] && i < 4095 {
			want = append(want, text.Len())
		}
	}
	if got, e := parts.Safe(p, text.String()); !slices.Equal(got, want) || e != api.OK || len(got) < 2000 || len(got) > 2100 {
		t.Errorf("%d places, not %d, %d", len(got), len(want), e)
	}
	// Nowhere in it stands a whole key.
	if got, e := parts.Run(p, text.String(), 16); got != text.String() || e != api.OK {
		t.Errorf("%d bytes, %d", len(got), e)
	}
}

func TestHowLongATextMayBe(t *testing.T) { // P17.1, P17.2
	for _, rules := range []string{"", "a > x", "^ { . > ", "é } € > x"} {
		p := read(t, rules)
		for _, x := range []string{"a", "b", "ab", "é", "\xFF", "€", "\U0010FFFF", "aé€\xE2\x82x"} {
			for _, n := range []int{16382, 16383, 16384} {
				// Bytes count, not units.
				safe(t, p, strings.Repeat(x, n/len(x)+1)[:n])
			}
			for _, n := range []int{16385, 16386, 32768, 1 << 20} {
				refuses(t, p, strings.Repeat(x, n/len(x)+1)[:n], 1, api.ErrLong)
			}
		}
		same(t, p, strings.Repeat("ab€", 3276)+"\xE2\x82ab", 1, 16)
	}
	tellsText(t, "a > x", strings.Repeat("a", 16383)+".")
	tellsText(t, "a > x", strings.Repeat("a", 16382)+"."+"a", 16383)
	tellsText(t, "a > x", "."+strings.Repeat("a", 16383), 1)
}

// refuses holds that both calls refuse a pass and a text, and why.
func refuses(t *testing.T, p api.Pass, s string, workers int, code api.Errno) {
	t.Helper()
	if l, e := parts.Safe(p, s); len(l) > 0 || e != code {
		t.Errorf("%s over %.60q: %.90s, %d; want %d", brief(p), s, fmt.Sprint(l), e, code)
	}
	if text, e := parts.Run(p, s, workers); text != "" || e != code {
		t.Errorf("%s over %.60q by %d: %.90q, %d; want %d", brief(p), s, workers, text, e, code)
	}
}

// refused are rules that may not be in any pass, each for another reason: all errors of rule.Check, and of weigh.Check.
var refused = []struct {
	rules []api.Rule
	code  api.Errno
}{
	{[]api.Rule{{}}, api.ErrRuleKey},
	{[]api.Rule{{Key: slices.Repeat(row(a), 9)}}, api.ErrRuleKey},
	{[]api.Rule{{Ante: row(nil), Post: row(nil)}}, api.ErrRuleKey},
	{[]api.Rule{{Key: row(a), Ante: slices.Repeat(row(a), 9)}}, api.ErrRuleMany},
	{[]api.Rule{{Key: row(a), Post: slices.Repeat(row(a), 9)}}, api.ErrRuleMany},
	{[]api.Rule{{Key: row(a), Result: slices.Repeat(pieces(unit('a')), 17), Cursor: 17}}, api.ErrRuleMany},
	{[]api.Rule{{Key: row(of('b', 'a'))}}, api.ErrRuleSet},
	{[]api.Rule{{Key: row(a, nil)}}, api.ErrRuleSet},
	{[]api.Rule{{Key: row(a), Ante: row(of(0, maxRune))}}, api.ErrRuleSet},
	{[]api.Rule{{Key: row(a), Post: row(a, of('a', 'b', 'c', 'd'))}}, api.ErrRuleSet},
	{[]api.Rule{{Key: row(a), Result: pieces(unit(0xD800)), Cursor: 1}}, api.ErrRulePiece},
	{[]api.Rule{{Key: row(a), Result: pieces(api.Piece{}), Cursor: 1}}, api.ErrRulePiece},
	{[]api.Rule{{Key: row(a), Result: pieces(again(1)), Cursor: 1}}, api.ErrRuleCopy},
	{[]api.Rule{{Key: row(a), Result: pieces(paired(0, abc)), Cursor: 1}}, api.ErrRulePair},
	{[]api.Rule{{Key: row(a), Cursor: 1}}, api.ErrRuleCursor},
	{[]api.Rule{{Key: row(a), Result: pieces(unit('b')), Cursor: -1}}, api.ErrRuleCursor},
	{[]api.Rule{{Key: row(a), Result: pieces(again(0))}}, api.ErrWeighBack},
	{[]api.Rule{{Key: row(a, a), Result: pieces(again(1), again(1))}}, api.ErrWeighBack},
	{[]api.Rule{{Key: row(a), Result: pieces(unit('a'))}}, api.ErrWeighMost},
	{[]api.Rule{{Key: row(a), Result: pieces(unit('b'))}, {Key: row(of('b', 'b')), Result: pieces(unit('a'))}}, api.ErrWeighMost},
}

func TestRefusedPasses(t *testing.T) { // P17.1, P17.2: at the first rule, amidst, at the last
	good := read(t, "q > r ; qq > p | q ; x { s } y > s").Rules
	codes := map[api.Errno]int{}
	for _, x := range refused {
		codes[x.code]++
		for n := range len(good) + 1 {
			p := rules(slices.Insert(slices.Clone(good), n, x.rules...)...)
			for _, s := range []string{"", "a", "ab ab", "\xE2", strings.Repeat(" a", 8192)} {
				refuses(t, p, s, 1+n, x.code)
			}
		}
		l := slices.Repeat(good[:1], 256-len(x.rules))
		refuses(t, rules(append(l, x.rules...)...), "ab ab", 16, x.code)
	}
	if len(codes) != 9 {
		t.Errorf("not all errors: %v", codes)
	}
	for _, n := range []int{257, 512, 65537} {
		refuses(t, rules(slices.Repeat(good[:1], n)...), "ab ab", 2, api.ErrRuleMany)
		refuses(t, rules(make([]api.Rule, n)...), "ab ab", 2, api.ErrRuleMany)
	}
}

func TestTheFirstErrorOfSeveral(t *testing.T) { // P17.1, P17.2: the pass, then the text, then the workers
	much := strings.Repeat("a ", 8193)
	for _, x := range refused {
		p := rules(x.rules...)
		for _, s := range []string{"", "ab", much} {
			for _, workers := range append([]int{1, 16}, noWorkers...) {
				refuses(t, p, s, workers, x.code)
			}
		}
	}
	for _, rules := range []string{"", "a > b", ". > x"} {
		for _, workers := range append([]int{1, 16}, noWorkers...) {
			refuses(t, read(t, rules), much, workers, api.ErrLong)
		}
	}
	bad := api.Rule{Key: row(a), Cursor: 1}
	circle := api.Rule{Key: row(a), Result: pieces(unit('a'))}
	back := api.Rule{Key: row(a, a), Result: pieces(again(1), again(1))}
	refuses(t, rules(circle, back, bad), "a", 1, api.ErrRuleCursor)
	refuses(t, rules(circle, back), "a", 1, api.ErrWeighBack)
	refuses(t, rules(circle), "a", 1, api.ErrWeighMost)
	refuses(t, rules(bad, api.Rule{}), "a", 1, api.ErrRuleCursor)
	refuses(t, rules(slices.Repeat([]api.Rule{{}}, 257)...), "a", 1, api.ErrRuleMany)
}

func TestAnyPassesAndTheirErrors(t *testing.T) { // P17.1, P17.2
	codes := map[api.Errno]int{}
	for _, m := range []maker{made(171, 4, 0), made(172, 4, 4)} {
		for range 1500 {
			p, text := m.pass(6), m.text(20)
			_, code := weigh.Check(p)
			codes[code]++
			if code != api.OK {
				refuses(t, p, text, 1+m.Intn(16), code)
				continue
			}
			safe(t, p, text)
			same(t, p, text, 1+m.Intn(16))
		}
	}
	if len(codes) < 5 || codes[api.OK] < 300 || codes[api.ErrWeighBack] < 100 || codes[api.ErrWeighMost] < 30 {
		t.Errorf("the passes are too tame or too wild: %v", codes)
	}
}

func TestPlacesRise(t *testing.T) { // P17.1: borders, and never the first or the last one
	m := made(173, 4, 0)
	many := 0
	for range 3000 {
		p, text := m.fine(6), m.text(40)
		last := 0
		for _, at := range safe(t, p, text) {
			if at <= last || at >= len(text) || !utf.Border(text, at) {
				t.Fatalf("%s over %q: %d behind %d", brief(p), text, at, last)
			}
			last = at
			many++
		}
	}
	if many < 5000 {
		t.Errorf("only %d places", many)
	}
}
