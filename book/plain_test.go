package book_test

import (
	"slices"
	"strings"
	"testing"

	"respell/api"
	"respell/book"
	"respell/rule"
	"respell/weigh"
)

// Passes as a text: P23.4.

func TestPlain(t *testing.T) { // P23.4: lines as parse.Print writes them
	for text, want := range map[string]string{
		"a>b;":                            "a > b ;\n",
		"a > ;":                           "a > ;\n",
		"a > | bc ; b > c|d;":             "a > | b c ;\nb > c | d ;\n",
		"$v = [aeiou] ; $v > @1:[AEIOU];": "[a e i o u] > @1:[A E I O U] ;\n",
		"[:digit:][a-f] > x@2@1;":         "[0-9] [a-f] > x @2 @1 ;\n",
		"^ { a } $ > A":                   "^ { a } $ > A ;\n",
		"^ x y { a } z > A":               "^ x y { a } z > A ;\n",
		"x[yz] { ab } . $ > | ":           "x [y-z] { a b } [\\x{0}-\\x{D7FF} \\x{E000}-\\x{10FFFF} \\b{80}-\\b{FF}] $ > ;\n",
		"[^a] > ;":                        "[\\x{0}-` b-\\x{D7FF} \\x{E000}-\\x{10FFFF}] > ;\n",
		"[a-c\\b{80}-\\b{82}z] > \\b{C3}": "[a-c z \\b{80}-\\b{82}] > \\b{C3} ;\n",
		"[a] > @1:[b] ; [ab] > @1:[yx]":   "a > @1:[b] ;\n[a-b] > @1:[x-y] ;\n",
		"then > x ; # y\nthen;t > then":   "t h e n > x ;\nthen ;\nt > t h e n ;\n",
		"é > € ; \\  > \\x{0}\\\\":        "\\x{E9} > \\x{20AC} ;\n\\  > \\x{0} \\\\ ;\n",
		"a > x ; then ; b > y":            "a > x ;\nthen ;\nb > y ;\n",
		"[\\--/] > \\$ @1:[\\^-`]":        "[\\--/] > \\$ @1:[\\^-`] ;\n",
	} {
		is(t, read(t, strings.TrimSuffix(text, ";")+";"), want)
	}
}

func TestHowManyPasses(t *testing.T) { // P23.4: ErrBookPass
	unwritten(t, nil, api.ErrBookPass)
	unwritten(t, []api.Pass{}, api.ErrBookPass)
	for n := 1; n <= 16; n++ {
		is(t, make([]api.Pass, n), strings.Repeat("then ;\n", n-1))
		is(t, slices.Repeat(read(t, "a > b ;"), n), strings.TrimSuffix(strings.Repeat("a > b ;\nthen ;\n", n), "then ;\n"))
		plain(t, slices.Repeat(one(full(), full()), n))
	}
	for _, n := range []int{17, 18, 32, 256, 257, 272, 65536, 100000} {
		unwritten(t, make([]api.Pass, n), api.ErrBookPass)
		unwritten(t, slices.Repeat(read(t, "a > b ;"), n), api.ErrBookPass)
	}
}

// full is a rule that may be, with something of all kinds.
func full() api.Rule {
	return api.Rule{
		Begin: true, Ante: row(abc, of(0, 0xD7FF)), Key: row(abc, of('0', '9'), of(firstRaw, lastRaw)), Post: row(of(maxRune, maxRune), a, of(lastRaw, lastRaw)), End: true,
		Result: pieces(unit('x'), again(1), paired(0, of('p', 'p', 'x', 'y')), unit(lastRaw)), Cursor: 2,
	}
}

// flaws make a rule one that may not be, each for one reason alone.
var flaws = []struct {
	code api.Errno
	put  func(r *api.Rule)
}{
	{api.ErrRuleKey, func(r *api.Rule) { r.Key, r.Result, r.Cursor = nil, nil, 0 }},
	{api.ErrRuleKey, func(r *api.Rule) { r.Key = slices.Concat(r.Key, r.Key, r.Key) }},
	{api.ErrRuleKey, func(r *api.Rule) { r.Key = slices.Repeat(r.Key[1:2], 513) }},
	{api.ErrRuleMany, func(r *api.Rule) { r.Ante = slices.Repeat(row(a), 9) }},
	{api.ErrRuleMany, func(r *api.Rule) { r.Ante = slices.Repeat(row(a), 513) }},
	{api.ErrRuleMany, func(r *api.Rule) { r.Post = slices.Repeat(row(a), 9) }},
	{api.ErrRuleMany, func(r *api.Rule) { r.Result = slices.Repeat(pieces(unit('a')), 17) }},
	{api.ErrRuleSet, func(r *api.Rule) { r.Ante[1] = nil }},
	{api.ErrRuleSet, func(r *api.Rule) { r.Ante[0] = of(-1, 0) }},
	{api.ErrRuleSet, func(r *api.Rule) { r.Key[2] = of('b', 'a') }},
	{api.ErrRuleSet, func(r *api.Rule) { r.Key[1] = of('0', '4', '5', '9') }},
	{api.ErrRuleSet, func(r *api.Rule) { r.Key[2] = of('x', 'z', 'a', 'c') }},
	{api.ErrRuleSet, func(r *api.Rule) { r.Post[0] = of(0, maxRune) }},
	{api.ErrRuleSet, func(r *api.Rule) { r.Post[2] = each(0, 513) }},
	{api.ErrRuleSet, func(r *api.Rule) { r.Post[0] = of(0x11007F, 0x110080) }},
	{api.ErrRuleSet, func(r *api.Rule) { r.Post[0] = of(lastRaw, lastRaw+1) }},
	{api.ErrRulePiece, func(r *api.Rule) { r.Result[3] = api.Piece{} }},
	{api.ErrRulePiece, func(r *api.Rule) { r.Result[3].Kind = 4 }},
	{api.ErrRulePiece, func(r *api.Rule) { r.Result[3].Unit = 0xDFFF }},
	{api.ErrRulePiece, func(r *api.Rule) { r.Result[3].Unit = lastRaw + 1 }},
	{api.ErrRulePiece, func(r *api.Rule) { r.Result[0].Key = 1 }},
	{api.ErrRulePiece, func(r *api.Rule) { r.Result[0].To = a }},
	{api.ErrRulePiece, func(r *api.Rule) { r.Result[1].Unit = 'a' }},
	{api.ErrRulePiece, func(r *api.Rule) { r.Result[1].To = a }},
	{api.ErrRulePiece, func(r *api.Rule) { r.Result[2].Unit = 'a' }},
	{api.ErrRuleCopy, func(r *api.Rule) { r.Result[1].Key = 3 }},
	{api.ErrRuleCopy, func(r *api.Rule) { r.Result[1].Key = -1 }},
	{api.ErrRuleCopy, func(r *api.Rule) { r.Result[2].Key = 255 }},
	{api.ErrRulePair, func(r *api.Rule) { r.Result[2].To = nil }},
	{api.ErrRulePair, func(r *api.Rule) { r.Result[2].To = of('x', 'y') }},
	{api.ErrRulePair, func(r *api.Rule) { r.Result[2].To = of('x', 'y', 'z', 'z') }},
	{api.ErrRuleCursor, func(r *api.Rule) { r.Cursor = 5 }},
	{api.ErrRuleCursor, func(r *api.Rule) { r.Cursor = -1 }},
}

func TestEachRuleThatMayNotBe(t *testing.T) { // P23.4: ErrBookPass, whatever rule.All tells
	codes := map[api.Errno]int{}
	for _, x := range flaws {
		r := full()
		x.put(&r)
		if e := rule.Check(r); e != x.code {
			t.Fatalf("%s: %d, not %d", brief(r), e, x.code)
		}
		codes[x.code]++
		unwritten(t, one(r), api.ErrBookPass)
		unwritten(t, one(full(), r), api.ErrBookPass)
		unwritten(t, one(r, full()), api.ErrBookPass)
		for n := range 16 {
			for _, l := range [][]api.Pass{make([]api.Pass, 16), slices.Repeat(one(full()), 16)} {
				l[n] = rules(full(), full(), r)
				unwritten(t, l, api.ErrBookPass)
				unwritten(t, l[:n+1], api.ErrBookPass)
				if n > 0 {
					plain(t, l[:n])
				}
			}
		}
	}
	if len(codes) != 7 {
		t.Errorf("%v", codes)
	}
	many := slices.Repeat([]api.Rule{{Key: row(a)}}, 257)
	unwritten(t, one(many...), api.ErrBookPass)
	unwritten(t, []api.Pass{{}, rules(many...), {}}, api.ErrBookPass)
	plain(t, one(many[:256]...))
	plain(t, slices.Repeat(one(many[:100]...), 16))
}

func TestPassesThatMightNotEnd(t *testing.T) { // P23.4: weigh.Check is not asked
	codes := map[api.Errno]int{}
	for _, text := range []string{"a > | b ;\nb > | a ;\n", "a b > | b a ;\n", "[a-b] c > | @1 ;\n", "a b c > | @3 @3 ;\n", "a > | a ;\n", "a > x | @1 ;\n", "[a-c] > | @1:[a-c] ;\n"} {
		l := read(t, text)
		_, e := weigh.Check(l[0])
		if _, f := rule.All(l[0]); e == api.OK || f != api.OK {
			t.Fatalf("%s: %d, %d", text, e, f)
		}
		codes[e]++
		is(t, l, text)
		is(t, slices.Concat(l, []api.Pass{{}}, l), text+"then ;\nthen ;\n"+text)
		refused(t, text, 0, e)
	}
	if len(codes) != 2 {
		t.Errorf("%v", codes)
	}
}

func TestSets(t *testing.T) { // P23.4: one unit, one range, many
	for _, x := range []struct {
		s    api.Set
		want string
	}{
		{of('a', 'a'), "a"}, {of(' ', ' '), "\\ "}, {of('[', '['), "\\["}, {of(0, 0), "\\x{0}"}, {of(0x7F, 0x7F), "\\x{7F}"}, {of(0xE9, 0xE9), "\\x{E9}"}, {of(maxRune, maxRune), "\\x{10FFFF}"}, {of(firstRaw, firstRaw), "\\b{80}"}, {of(lastRaw, lastRaw), "\\b{FF}"},
		{of('a', 'b'), "[a-b]"}, {of('a', 'z'), "[a-z]"}, {of('-', '.'), "[\\--\\.]"}, {of(0, 0xD7FF), "[\\x{0}-\\x{D7FF}]"}, {of(0xE000, maxRune), "[\\x{E000}-\\x{10FFFF}]"}, {of(firstRaw, lastRaw), "[\\b{80}-\\b{FF}]"}, {of(lastRaw-1, lastRaw), "[\\b{FE}-\\b{FF}]"},
		{of('a', 'a', 'c', 'c'), "[a c]"}, {of('a', 'b', 'd', 'd', 'f', 'z'), "[a-b d f-z]"}, {of('a', 'a', firstRaw, firstRaw), "[a \\b{80}]"}, {of(0xD7FF, 0xD7FF, 0xE000, 0xE000), "[\\x{D7FF} \\x{E000}]"}, {of(maxRune, maxRune, firstRaw, firstRaw+2), "[\\x{10FFFF} \\b{80}-\\b{82}]"},
		{all, "[\\x{0}-\\x{D7FF} \\x{E000}-\\x{10FFFF} \\b{80}-\\b{FF}]"},
	} {
		bare := x.want
		if !strings.HasPrefix(bare, "[") {
			bare = "[" + bare + "]"
		}
		is(t, one(api.Rule{Key: row(x.s)}), x.want+" > ;\n")
		is(t, one(api.Rule{Ante: row(a, x.s), Key: row(x.s, abc), Post: row(x.s, x.s)}), "a "+x.want+" { "+x.want+" [a-c] } "+x.want+" "+x.want+" > ;\n")
		is(t, one(api.Rule{Key: row(a, x.s), Result: pieces(paired(1, x.s), again(1)), Cursor: 2}), "a "+x.want+" > @2:"+bare+" @2 ;\n")
	}
	for _, n := range []int{2, 3, 127, 511, 512} {
		is(t, one(api.Rule{Key: row(each(0x1000, n)), Result: pieces(paired(0, each(0x2000, n)))}), "["+apart(0x1000, n)[1:]+"] > | @1:["+apart(0x2000, n)[1:]+"] ;\n")
	}
}

func TestEveryUnit(t *testing.T) { // P23.4: as scan.Write writes it
	for u := range 0x300 {
		plain(t, one(api.Rule{Key: row(of(u, u)), Result: pieces(unit(u), paired(0, of(u, u))), Cursor: 1}))
	}
	for _, u := range slices.Concat(crowd, []int{0xD7FE, 0xFFFE, 0xFFFFF, 0x100000, 0x1100AC}) {
		plain(t, one(api.Rule{Ante: row(of(u, u)), Key: row(a), Post: row(of(u, u)), Result: pieces(unit(u)), Cursor: 1}))
	}
	for u := firstRaw; u <= lastRaw; u++ {
		plain(t, one(api.Rule{Key: row(of(u, u), of(u, lastRaw)), Result: pieces(unit(u), paired(0, of(u, u)))}))
	}
}

func TestPieces(t *testing.T) { // P23.4: units, copies and pairs, of all places
	key := slices.Repeat(row(abc), 8)
	is(t, one(api.Rule{Key: key, Result: pieces(again(0), again(7), paired(7, of('x', 'z')), paired(0, of('1', '1', '3', '4')), unit('@')), Cursor: 5}), strings.Repeat("[a-c] ", 8)+"> @1 @8 @8:[x-z] @1:[1 3-4] \\@ ;\n")
	for k := range 8 {
		plain(t, one(api.Rule{Key: key, Result: pieces(unit('a'+k), again(k), paired(k, of('x', 'z')), again(7-k), unit(lastRaw-k)), Cursor: k % 6}))
		plain(t, one(api.Rule{Key: key[:k+1], Result: pieces(again(k))}))
		plain(t, one(api.Rule{Key: key[:k+1], Result: pieces(paired(k, of('x', 'z')))}))
	}
	// A digit behind a copy is no digit of it.
	is(t, one(api.Rule{Key: row(a), Result: pieces(again(0), unit('2'), again(0)), Cursor: 2}), "a > @1 2 | @1 ;\n")
}

func TestCursors(t *testing.T) { // P23.4: as it is
	for n := range 17 {
		l := slices.Repeat(pieces(unit('x'), again(0), paired(0, of('x', 'z'))), 6)[:n]
		words := strings.Fields(strings.Repeat("x @1 @1:[x-z] ", 6))[:n]
		for cursor := range n + 1 {
			want := slices.Clone(words)
			if cursor < n {
				want = slices.Insert(want, cursor, "|")
			}
			is(t, one(api.Rule{Key: row(abc), Result: l, Cursor: cursor}), strings.Join(slices.Concat([]string{"[a-c]", ">"}, want, []string{";\n"}), " "))
		}
	}
}

func TestContexts(t *testing.T) { // P23.4: all ways of Begin, Ante, Post and End
	unlike := map[string]bool{}
	for begin := range 2 {
		for end := range 2 {
			for ahead := range 9 {
				for behind := range 9 {
					r := api.Rule{Begin: begin == 1, End: end == 1, Ante: slices.Repeat(row(abc), ahead), Key: row(a), Post: slices.Repeat(row(a), behind)}
					want := strings.Repeat("^ ", begin) + strings.Repeat("[a-c] ", ahead) + strings.Repeat("{ ", min(1, begin+ahead)) + "a " + strings.Repeat("} ", min(1, end+behind)) + strings.Repeat("a ", behind) + strings.Repeat("$ ", end) + "> ;\n"
					is(t, one(r), want)
					unlike[want] = true
				}
			}
		}
	}
	if len(unlike) != 4*81 {
		t.Errorf("%d texts", len(unlike))
	}
}

func TestKeysAndResultsOfAllLengths(t *testing.T) { // P23.4
	for k := 1; k <= 8; k++ {
		for n := range 17 {
			is(t, one(api.Rule{Key: slices.Repeat(row(a), k), Result: slices.Repeat(pieces(unit('x')), n), Cursor: n}), strings.Repeat("a ", k)+">"+strings.Repeat(" x", n)+" ;\n")
		}
	}
}

func TestPassesWithoutRules(t *testing.T) { // P23.4, P23.5: wherever they stand
	is(t, []api.Pass{{}}, "")
	is(t, []api.Pass{{}, {}}, "then ;\n")
	x, y := read(t, "a > b ;")[0], read(t, "c > d ; e > f ;")[0]
	one, two := "a > b ;\n", "c > d ;\ne > f ;\n"
	is(t, []api.Pass{x}, one)
	is(t, []api.Pass{x, y}, one+"then ;\n"+two)
	is(t, []api.Pass{{}, x}, "then ;\n"+one)
	is(t, []api.Pass{x, {}}, one+"then ;\n")
	is(t, []api.Pass{{}, x, {}}, "then ;\n"+one+"then ;\n")
	is(t, []api.Pass{x, {}, y}, one+"then ;\nthen ;\n"+two)
	is(t, []api.Pass{{}, {}, x, {}, {}, y, {}, {}}, "then ;\nthen ;\n"+one+"then ;\nthen ;\nthen ;\n"+two+"then ;\nthen ;\n")
	is(t, []api.Pass{{Rules: []api.Rule{}}, x, {Rules: []api.Rule{}}}, "then ;\n"+one+"then ;\n")
	// All ways of four passes.
	for n := range 81 {
		var l []api.Pass
		for k := n + 81; k > 1; k /= 3 {
			l = append(l, []api.Pass{{}, x, y}[k%3])
		}
		plain(t, l)
	}
}

// loads is passes of which the text has just so many bytes.
func loads(n int) []api.Pass {
	eight, nine := api.Rule{Key: row(a), Result: pieces(unit('l')), Cursor: 1}, api.Rule{Key: row(a), Result: pieces(unit(';')), Cursor: 1}
	long := len(ruleByWords(lengthy()))
	l := []api.Pass{{}}
	for ; n > long+200; n -= long {
		if p := &l[len(l)-1]; len(p.Rules) < 60 {
			p.Rules = append(p.Rules, lengthy())
		} else {
			l = append(l, rules(lengthy()))
			n -= len("then ;\n")
		}
	}
	p := &l[len(l)-1]
	for ; n%8 != 0; n -= 9 {
		p.Rules = append(p.Rules, nine)
	}
	p.Rules = append(p.Rules, slices.Repeat([]api.Rule{eight}, n/8)...)
	return l
}

// lengthy is a rule of many bytes.
func lengthy() api.Rule {
	return api.Rule{Key: slices.Repeat(row(all), 2), Result: pieces(unit(maxRune), unit(lastRaw)), Cursor: 2}
}

func TestTextsThatAreTooLongToWrite(t *testing.T) { // P23.4: ErrLong, MaxSource
	for n := 32740; n <= 32800; n++ {
		l := loads(n)
		if len(textByWords(l)) != n || len(l) > 16 {
			t.Fatalf("%d bytes, %d passes", len(textByWords(l)), len(l))
		}
		if n <= 32768 {
			plain(t, l)
		} else {
			unwritten(t, l, api.ErrLong)
		}
	}
	// By a line that ends a pass, or by the one behind it.
	eight := rules(read(t, "k > l ;")[0].Rules[0])
	plain(t, append(loads(32761), api.Pass{}))
	unwritten(t, append(loads(32762), api.Pass{}), api.ErrLong)
	plain(t, append([]api.Pass{{}}, loads(32761)...))
	unwritten(t, append([]api.Pass{{}}, loads(32762)...), api.ErrLong)
	plain(t, append(loads(32753), eight))
	unwritten(t, append(loads(32754), eight), api.ErrLong)
	unwritten(t, append(loads(32768), api.Pass{}), api.ErrLong)
	unwritten(t, append(loads(32768), eight), api.ErrLong)
	// What is too long amidst is not written behind it.
	unwritten(t, slices.Concat(loads(32000), one(big(4)), one(), loads(32)), api.ErrLong)
}

// big is a rule with so many sets of the most ranges.
func big(n int) api.Rule {
	most := each(0x1000, 512)
	return api.Rule{Ante: slices.Repeat(row(most), min(n, 8)), Key: row(most), Post: slices.Repeat(row(most), max(n-8, 0))}
}

func TestGreatRules(t *testing.T) { // P23.4, R1: rules that are too long by themselves
	plain(t, one(big(6)))
	unwritten(t, one(big(7)), api.ErrLong)
	for n := 8; n <= 16; n++ {
		unwritten(t, one(big(n)), api.ErrLong)
		unwritten(t, []api.Pass{{}, rules(full(), big(n)), {}}, api.ErrLong)
	}
	most := each(0x10000, 512)
	greatest := api.Rule{Begin: true, End: true, Ante: slices.Repeat(row(most), 8), Key: slices.Repeat(row(most), 8), Post: slices.Repeat(row(most), 8), Result: slices.Repeat(pieces(paired(7, most)), 16), Cursor: 16}
	if text, e := book.Plain(slices.Repeat(one(slices.Repeat([]api.Rule{greatest}, 256)...), 16)); text != "" || e != api.ErrLong {
		t.Errorf("%s, %d", brief(text), e)
	}
}

func TestWhatMayNotBeIsToldAheadOfWhatIsLong(t *testing.T) { // P23.4
	for _, x := range flaws {
		r := full()
		x.put(&r)
		unwritten(t, slices.Concat(loads(32769), one(r)), api.ErrBookPass)
		unwritten(t, one(big(8), r), api.ErrBookPass)
		unwritten(t, one(r, big(8)), api.ErrBookPass)
	}
	unwritten(t, slices.Repeat(one(big(8)), 17), api.ErrBookPass)
	unwritten(t, slices.Repeat(one(big(8)), 16), api.ErrLong)
}

func TestAnyPasses(t *testing.T) { // P23.4, P23.5
	codes, kinds, lot := map[api.Errno]int{}, map[int]int{}, 0
	for _, m := range []maker{made(241, 0), made(242, 20), made(243, 3)} {
		for range 1000 {
			l := m.passes(pick(m, 1, 3, 3, 17), pick(m, 1, 2, 5, 20))
			_, e := plainByWords(l)
			codes[e]++
			if e != api.OK {
				unwritten(t, l, e)
				continue
			}
			if text := plain(t, l); len(text) > 2000 {
				lot++
			}
			for _, p := range l {
				for _, r := range p.Rules {
					for _, x := range r.Result {
						kinds[x.Kind]++
					}
				}
			}
		}
	}
	if codes[api.OK] < 800 || codes[api.ErrLong] < 10 || codes[api.ErrBookPass] < 500 || lot < 150 || kinds[1] < 1000 || kinds[2] < 1000 || kinds[3] < 1000 {
		t.Errorf("the passes are too tame or too wild: %v, %v, %d long texts", codes, kinds, lot)
	}
}
