package chain_test

import (
	"fmt"
	"slices"
	"strings"
	"testing"

	"respell/api"
	"respell/chain"
	"respell/names"
	"respell/parse"
	"respell/weigh"
)

// How passes are written in these tests: as a rules' text has them, or by hand where that can't.

// readAll is the passes of a rules' text; the last ; may be left out.
func readAll(t *testing.T, text string) []api.Pass {
	t.Helper()
	if strings.TrimSpace(text) != "" && !strings.HasSuffix(text, ";") {
		text += " ;"
	}
	lines, fault := parse.Parse(text)
	if fault.Code != api.OK {
		t.Fatalf("%s: %v", text, fault)
	}
	passes, line, e := names.Passes(lines)
	if e != api.OK {
		t.Fatalf("%s: %d, %d", text, line, e)
	}
	return passes
}

// read is the one pass of a rules' text.
func read(t *testing.T, text string) api.Pass {
	t.Helper()
	l := readAll(t, text)
	if len(l) != 1 {
		t.Fatalf("%s: %d passes", text, len(l))
	}
	return l[0]
}

func of(n ...int) api.Set {
	var s api.Set
	for i := 0; i+1 < len(n); i += 2 {
		s = append(s, api.Range{Lo: n[i], Hi: n[i+1]})
	}
	return s
}

func row(l ...api.Set) []api.Set { return l }

func pieces(l ...api.Piece) []api.Piece { return l }

func unit(u int) api.Piece               { return api.Piece{Kind: api.PUnit, Unit: u} }
func again(k int) api.Piece              { return api.Piece{Kind: api.PCopy, Key: k} }
func paired(k int, to api.Set) api.Piece { return api.Piece{Kind: api.PPair, Key: k, To: to} }

func rules(l ...api.Rule) api.Pass { return api.Pass{Rules: l} }

func passes(l ...api.Pass) []api.Pass { return l }

// long leaves out what takes long with the race detector, and shows it nothing that other tests do not.
func long(t *testing.T) {
	t.Helper()
	if testing.Short() {
		t.Skip("it takes long")
	}
}

func brief(x any) string { return fmt.Sprintf("%.400s", fmt.Sprint(x)) }

const (
	maxText  = 16384
	maxRune  = 0x10FFFF
	firstRaw = 0x110080
	lastRaw  = 0x1100FF
)

var (
	a   = of('a', 'a')
	abc = of('a', 'c')
	all = of(0, 0xD7FF, 0xE000, maxRune, firstRaw, lastRaw)
)

// begin is a chain of passes that may be.
func begin(t *testing.T, l []api.Pass) *chain.Chain {
	t.Helper()
	c, n, e := chain.New(l)
	if c == nil || n != 0 || e != api.OK {
		t.Fatalf("%s: %d, %d", brief(l), n, e)
	}
	return c
}

// chained is a chain of the passes of a rules' text.
func chained(t *testing.T, text string) *chain.Chain {
	t.Helper()
	return begin(t, readAll(t, text))
}

func refuses(t *testing.T, l []api.Pass, n int, e api.Errno) {
	t.Helper()
	if c, gotN, gotE := chain.New(l); c != nil || gotN != n || gotE != e {
		t.Errorf("%s: %v, %d, %d; want nil, %d, %d", brief(l), c != nil, gotN, gotE, n, e)
	}
}

func block(s0, s1, r0, r1 int) api.Block { return api.Block{S0: s0, S1: s1, R0: r0, R1: r1} }

func blocks(l ...api.Block) []api.Block { return l }

func texts(l ...string) []string { return l }

// makes holds what a chain of passes makes of a text against texts and blocks, and these against the document's words.
func makes(t *testing.T, l []api.Pass, s string, each []string, parts []api.Block) {
	t.Helper()
	c := begin(t, l)
	same(t, l, c, s)
	if got, e := c.Each(s); !slices.Equal(got, each) || e != api.OK {
		t.Errorf("%s over %.90q: %.200q, %d; want %.200q", brief(l), s, got, e, each)
	}
	if got, e := c.Blocks(s); !slices.Equal(got, parts) || e != api.OK {
		t.Errorf("%s over %.90q: %.200s, %d; want %.200s", brief(l), s, fmt.Sprint(got), e, fmt.Sprint(parts))
	}
	last := s
	if len(each) > 0 {
		last = each[len(each)-1]
	}
	if got, e := c.Run(s); got != last || e != api.OK {
		t.Errorf("%s over %.90q: %.200q, %d; want %.200q", brief(l), s, got, e, last)
	}
}

func tooLong(t *testing.T, c *chain.Chain, s string) {
	t.Helper()
	if got, e := c.Run(s); got != "" || e != api.ErrLong {
		t.Errorf("Run: %.60q, %d", got, e)
	}
	if got, e := c.Each(s); len(got) != 0 || e != api.ErrLong {
		t.Errorf("Each: %.60q, %d", got, e)
	}
	if got, e := c.Blocks(s); len(got) != 0 || e != api.ErrLong {
		t.Errorf("Blocks: %.60s, %d", fmt.Sprint(got), e)
	}
}

func TestExamples(t *testing.T) { // the chapter's table
	both := readAll(t, "a > ; then ; € > E")
	makes(t, nil, "ab", nil, blocks(block(0, 2, 0, 2)))
	makes(t, both, "\xE2a\x82\xAC", texts("\xE2\x82\xAC", "E"), blocks(block(0, 4, 0, 1)))
	x := begin(t, both).Stream()
	puts(t, x, put{"\xE2a\x82", "", []int{0, 2}}, put{"\xAC", "E", []int{0, 0}})
	closes(t, x, "", 0, 0)
	refuses(t, make([]api.Pass, 17), 0, api.ErrChainMany)
	loop := read(t, "a > | a")
	_, e := weigh.Check(loop)
	if e != api.ErrWeighMost {
		t.Errorf("%d", e)
	}
	refuses(t, passes(read(t, "a > b"), loop), 1, e)
}

// DOC.md's ten examples, as far as a pass or passes run there over a whole text.
func TestExamplesOfTheWhole(t *testing.T) { // P18.2, W2
	for _, x := range []struct{ rules, over, want string }{
		{"a > b ;", "aXa", "bXb"},
		{"a > b ;", "\xE2a\x82", "\xE2b\x82"},
		{"a > ;", "\xE2a\x82\xAC", "\xE2\x82\xAC"},
		{"a > ; then ; € > E ;", "\xE2a\x82\xAC", "E"},
		{"a > x ; ab > y ;", "abaab", "yxy"},
		{"a } b > x ;", "abaa", "xbaa"},
		{"x { a > x ; a > y ;", "aaxa", "yyxx"},
		{"x { a > x ; a > y ;", "xaa", "xxx"},
		{"ab > b | c ; c > d ;", "ab", "bd"},
		{"^ { a > A ;", "aa", "Aa"},
		{"[a-c] > @1:[x-z] ;", "abcd", "xyzd"},
		{"[a-c] > @1:[x-z] ; then ; [x-z] > @1:[a-c] ;", "abcd", "abcd"},
		{"\\b{80} > E ;", "\x80€", "E€"},
		{"a > \\b{C3} ; b > \\b{A9} ;", "ab", "\xC3\xA9"},
		{"a > \\b{C3} ; b > \\b{A9} ; then ; é > x ;", "ab", "x"},
	} {
		l := readAll(t, x.rules)
		c := begin(t, l)
		same(t, l, c, x.over)
		if got, e := c.Run(x.over); got != x.want || e != api.OK {
			t.Errorf("%s over %q: %q, %d; want %q", x.rules, x.over, got, e, x.want)
		}
	}
	refuses(t, readAll(t, "ab > | ba ;"), 0, api.ErrWeighMost)
	// By a stream to which a and a come.
	x := chained(t, "^ { a > A ;").Stream()
	puts(t, x, put{"a", "A", []int{0}}, put{"a", "a", []int{0}})
}

func TestHowManyPasses(t *testing.T) { // P18.1
	step := read(t, "a > b ; b > c ; c > d ; d > e ; e > f ; f > g ; g > h ; h > i ; i > j ; j > k ; k > l ; l > m ; m > n ; n > o ; o > p ; p > q ; q > r")
	const letters = "abcdefghijklmnopqr"
	for n := range 17 {
		l := slices.Repeat(passes(step), n)
		each := []string(nil)
		for k := range n {
			each = append(each, letters[k+1:k+2]+"é")
		}
		parts := blocks(block(0, 1, 0, 1), block(1, 3, 1, 3))
		if n == 0 {
			parts = blocks(block(0, 3, 0, 3))
		}
		makes(t, l, "aé", each, parts)
	}
	bad := read(t, "a > | a")
	for _, n := range []int{17, 18, 100, 100000} {
		refuses(t, slices.Repeat(passes(step), n), 0, api.ErrChainMany)
		refuses(t, make([]api.Pass, n), 0, api.ErrChainMany)
		refuses(t, slices.Repeat(passes(bad), n), 0, api.ErrChainMany)
		refuses(t, append(make([]api.Pass, n-1), bad), 0, api.ErrChainMany)
		refuses(t, append(passes(rules(api.Rule{})), make([]api.Pass, n-1)...), 0, api.ErrChainMany)
	}
}

// refused is passes that may not be, and why.
func refused(t *testing.T) map[api.Errno]api.Pass {
	key := row(a)
	return map[api.Errno]api.Pass{
		api.ErrRuleKey:    rules(api.Rule{}),
		api.ErrRuleSet:    rules(api.Rule{Key: row(of('b', 'a'))}),
		api.ErrRuleMany:   rules(make([]api.Rule, 257)...),
		api.ErrRulePiece:  rules(api.Rule{Key: key, Result: pieces(api.Piece{Kind: 4}), Cursor: 1}),
		api.ErrRuleCopy:   rules(api.Rule{Key: key, Result: pieces(again(1)), Cursor: 1}),
		api.ErrRulePair:   rules(api.Rule{Key: key, Result: pieces(paired(0, abc)), Cursor: 1}),
		api.ErrRuleCursor: rules(api.Rule{Key: key, Cursor: 1}),
		api.ErrWeighBack:  read(t, "[ab]c > | @1"),
		api.ErrWeighMost:  read(t, "a > | b ; b > | a"),
	}
}

func TestThePassThatIsRefused(t *testing.T) { // P18.1, R2
	long(t)
	good := read(t, "a > b")
	bad := refused(t)
	for e, p := range bad {
		if _, code := weigh.Check(p); code != e {
			t.Fatalf("%d, not %d", code, e)
		}
		for n := 1; n <= 16; n++ {
			for at := range n {
				l := slices.Repeat(passes(good), n)
				l[at] = p
				refuses(t, l, at, e)
				// Of several the first one.
				for code, other := range bad {
					for behind := at + 1; behind < n; behind += 3 {
						l[behind] = other
					}
					if at+1 < n {
						refuses(t, l[at+1:], 0, code)
					}
					refuses(t, l, at, e)
				}
			}
		}
	}
}

func TestNoPass(t *testing.T) { // P18.1 to P18.3, W1
	for _, l := range [][]api.Pass{nil, {}} {
		makes(t, l, "", nil, nil)
		for _, s := range []string{"a", "é", "ab\xFF", "\xE2\x82", "\x00", strings.Repeat("é", maxText/2)} {
			makes(t, l, s, nil, blocks(block(0, len(s), 0, len(s))))
		}
		c := begin(t, l)
		tooLong(t, c, strings.Repeat("a", maxText+1))
	}
}

func TestOnePass(t *testing.T) { // P18.2, P18.3: the second and third are of chapter 13
	makes(t, make([]api.Pass, 1), "aé", texts("aé"), blocks(block(0, 1, 0, 1), block(1, 3, 1, 3)))
	makes(t, readAll(t, "a > ; b > xy"), "abc", texts("xyc"), blocks(block(0, 1, 0, 0), block(1, 2, 0, 2), block(2, 3, 2, 3)))
	makes(t, readAll(t, "ab > b | c ; cd > e"), "abdx", texts("bex"), blocks(block(0, 3, 0, 2), block(3, 4, 2, 3)))
	makes(t, readAll(t, "a > b"), "", texts(""), nil)
}

func TestMorePasses(t *testing.T) { // P18.2, P18.3
	// Passes without rules leave a text as it is, but its blocks are units.
	makes(t, make([]api.Pass, 2), "aé", texts("aé", "aé"), blocks(block(0, 1, 0, 1), block(1, 3, 1, 3)))
	makes(t, make([]api.Pass, 16), "\xE2", slices.Repeat(texts("\xE2"), 16), blocks(block(0, 1, 0, 1)))
	makes(t, make([]api.Pass, 16), "", make([]string, 16), nil)
	// The order of the passes is seen.
	makes(t, readAll(t, "a > b ; then ; b > c"), "ab", texts("bb", "cc"), blocks(block(0, 1, 0, 1), block(1, 2, 1, 2)))
	makes(t, readAll(t, "b > c ; then ; a > b"), "ab", texts("ac", "bc"), blocks(block(0, 1, 0, 1), block(1, 2, 1, 2)))
	// What the one has made of several units the next one parts; what the one parts the next one makes one.
	makes(t, readAll(t, "ab > xy ; then ; x > p"), "abc", texts("xyc", "pyc"), blocks(block(0, 2, 0, 2), block(2, 3, 2, 3)))
	makes(t, readAll(t, "a > xy ; then ; yx > q"), "aac", texts("xyxyc", "xqyc"), blocks(block(0, 2, 0, 3), block(2, 3, 3, 4)))
	// What is gone stands ahead of what comes of the next one.
	makes(t, readAll(t, "a > ; then ; b > xx ; then ; x > y"), "abac", texts("bc", "xxc", "yyc"), blocks(block(0, 1, 0, 0), block(1, 2, 0, 2), block(2, 3, 2, 2), block(3, 4, 2, 3)))
	makes(t, readAll(t, "a > ; then ; b > ; then ; c > "), "abcab", texts("bcb", "c", ""), blocks(block(0, 1, 0, 0), block(1, 2, 0, 0), block(2, 3, 0, 0), block(3, 4, 0, 0), block(4, 5, 0, 0)))
	// The contexts of a pass see what the pass ahead has written, and the ends of that.
	makes(t, readAll(t, "a > ; then ; ^ { b > B ; b } $ > E"), "abbba", texts("bbb", "BbE"), blocks(block(0, 1, 0, 0), block(1, 2, 0, 1), block(2, 3, 1, 2), block(3, 4, 2, 3), block(4, 5, 3, 3)))
	makes(t, readAll(t, "b > ; then ; a { a > x"), "aba", texts("aa", "ax"), blocks(block(0, 1, 0, 1), block(1, 2, 1, 1), block(2, 3, 1, 2)))
	// One that puts back, and one over what it wrote.
	makes(t, readAll(t, "ab > b | c ; cd > e ; then ; be > x ; x > y ; then ; x > y | z ; z > "), "abdxab", texts("bexbc", "xybc", "yybc"), blocks(block(0, 3, 0, 1), block(3, 4, 1, 2), block(4, 6, 2, 4)))
}

func TestStraysSideBySide(t *testing.T) { // P18.2, P18.3: a rune to the next pass
	makes(t, readAll(t, "a > \\b{C3} ; b > \\b{A9} ; then ; é > x"), "ab", texts("é", "x"), blocks(block(0, 2, 0, 1)))
	makes(t, readAll(t, "a > \\b{C3} ; b > \\b{A9} ; then ; \\b{C3} > x ; \\b{A9} > y"), "aabab", texts("\xC3éé", "xéé"), blocks(block(0, 1, 0, 1), block(1, 3, 1, 3), block(3, 5, 3, 5)))
	makes(t, readAll(t, "a > ; then ; . > x"), "\xE2a\x82a\xAC", texts("€", "x"), blocks(block(0, 5, 0, 1)))
	makes(t, readAll(t, "a > ; then ; . > x"), "\xE2a\x82ab\xAC", texts("\xE2\x82b\xAC", "xxxx"), blocks(block(0, 1, 0, 1), block(1, 2, 1, 1), block(2, 3, 1, 2), block(3, 4, 2, 2), block(4, 5, 2, 3), block(5, 6, 3, 4)))
	// The one that writes them sees strays to its end.
	makes(t, readAll(t, "a > \\b{C3} ; \\b{C3} { b > \\b{A9} ; \\b{A9} { é > y ; é > x ; then ; é > z"), "abéé", texts("\xC3\xA9yx", "zyx"), blocks(block(0, 2, 0, 1), block(2, 4, 1, 2), block(4, 6, 2, 3)))
	// A rune that becomes strays that make another one with what stands around them.
	makes(t, readAll(t, "é > \\b{82} ; then ; € > E ; then ; E > e"), "\xE2é\xAC", texts("€", "E", "e"), blocks(block(0, 4, 0, 1)))
	// Over two passes.
	makes(t, readAll(t, "a > ; then ; b > ; then ; \\x{10348} > h"), "\xF0a\x90b\x8Da\x88", texts("\xF0\x90b\x8D\x88", "\U00010348", "h"), blocks(block(0, 7, 0, 1)))
}

func TestTooLong(t *testing.T) { // P18.2, P18.3
	long(t)
	full, over := strings.Repeat("a", maxText), strings.Repeat("a", maxText+1)
	for _, text := range []string{"", "a > ", "b > c ; then ; c > d"} {
		l := readAll(t, text)
		for _, l := range [][]api.Pass{l, append(l, make([]api.Pass, 16-len(l))...)} {
			c := begin(t, l)
			tooLong(t, c, over)
			tooLong(t, c, full+full)
			tooLong(t, c, strings.Repeat("€", maxText/3)+"€")
			same(t, l, c, full)
			// A refusal leaves no trace.
			same(t, l, c, "aa")
		}
	}
}

// What stands behind a pass may be of MaxText bytes and no more, if another one comes behind it.
func TestTooLongBehindAPass(t *testing.T) { // P18.2, P18.3
	long(t)
	half := strings.Repeat("a", maxText/2)
	double, none := read(t, "a > bb ; c > bbb"), api.Pass{}
	drop := read(t, "b > ")
	for _, at := range []int{0, 1, 14, 15} {
		for _, behind := range slices.Compact([]int{0, min(1, 15-at), 15 - at}) {
			l := slices.Concat(slices.Repeat(passes(none), at), passes(double), slices.Repeat(passes(drop), behind))
			c := begin(t, l)
			same(t, l, c, half)
			same(t, l, c, half[2:]+"cx")
			for _, s := range []string{half + "a", half + "x", half[1:] + "c", half + half} {
				if behind > 0 {
					tooLong(t, c, s)
				} else if text, e := c.Run(s); len(text) <= maxText || e != api.OK {
					t.Errorf("%d bytes, %d", len(text), e)
				}
			}
			same(t, l, c, "ca")
		}
	}
	// Behind the second one of three; the first one, and the last one, make less of it.
	c := begin(t, readAll(t, "x > ; then ; a > bb ; then ; b > "))
	if got, e := c.Run(half + "xxx"); got != "" || e != api.OK {
		t.Errorf("%d bytes, %d", len(got), e)
	}
	tooLong(t, c, half+"xax")
}

func TestTheLastMayBeLong(t *testing.T) { // P18.2, P18.3
	long(t)
	full := strings.Repeat("a", maxText)
	for _, x := range []struct {
		rules string
		n     int
	}{{"a > bbb", 3 * maxText}, {"a > b ; then ; b > €€€€€€€€€€€€€€€€", 48 * maxText}, {"a > €€€€€€€€€€€€€€€€", 48 * maxText}, {"a > b ; then ; b > c ; then ; c > | de ; d > €€ ; e > €", 9 * maxText}} {
		l := readAll(t, x.rules)
		c := begin(t, l)
		if got, e := c.Run(full); len(got) != x.n || e != api.OK {
			t.Errorf("%s: %d bytes, %d", x.rules, len(got), e)
		}
		same(t, l, c, full)
		tooLong(t, begin(t, append(l, api.Pass{})), full)
	}
}
