package turn_test

import (
	"slices"
	"strings"
	"testing"

	"respell/api"
	"respell/turn"
)

// becomes holds a turned pass against the words, and against what is wanted.
func becomes(t *testing.T, text, want string) {
	t.Helper()
	turned, n, e := told(t, read(t, text))
	if back := read(t, want); !samePass(turned, back) || n != 0 || e != api.OK {
		t.Errorf("%s: %s, %d, %d; want %s", text, brief(turned), n, e, brief(back))
	}
}

func TestExamplesOfTurn(t *testing.T) { // P19.1
	becomes(t, "[a-c] > @1:[x-z]", "[x-z] > @1:[a-c]")
	becomes(t, "a > b ; b > a", "b > a ; a > b")
	becomes(t, "a > ae", "ae > a")
	becomes(t, "x } 1 > y", "y } 1 > x")
	becomes(t, "ab > @2@1", "ba > ab")
	becomes(t, "[ab] > @1", "[ab] > @1")
	refused(t, api.ErrTurnResult, "a > ", "a > x | b", "a > \\b{A9}")
	becomes(t, "\\b{C3} > E", "E > \\b{C3}")
	refused(t, api.ErrTurnTwice, "[ab] > x", "[ab] > @1@1")
	isText(t, "a > x ; b > x", 1, api.ErrTurnTwice)
	isText(t, "a > x ; b > xy", 1, api.ErrTurnPrefix)
	refused(t, api.ErrTurnContext, "a } b > x ; b > y")
	becomes(t, "a } 1 > x ; a > x", "x } 1 > a ; x > a")
	becomes(t, "", "")
}

func TestWhereATurnedRuleFits(t *testing.T) { // P19.1: Begin, Ante, Post and End
	becomes(t, "^ { a > x", "^ { x > a")
	becomes(t, "a } $ > x", "x } $ > a")
	becomes(t, "1 { a > x", "1 { x > a")
	becomes(t, "a } 1 > x", "x } 1 > a")
	becomes(t, "^ { a } $ > x", "^ { x } $ > a")
	becomes(t, "^ 1[2-4] { a } 567 $ > x", "^ 1[2-4] { x } 567 $ > a")
	becomes(t, "12345678 { ab } [12]34567[78] > x", "12345678 { x } [12]34567[78] > ab")
	becomes(t, "^ 1 { a } 2 > x ; 3 { b } 4 $ > y", "^ 1 { x } 2 > a ; 3 { y } 4 $ > b")
	becomes(t, "[:stray:] { a } \\b{80} > x", "[:stray:] { x } \\b{80} > a")
}

func TestWhatATurnedRuleWrites(t *testing.T) { // P19.1: Key, Result and Cursor
	// Units.
	becomes(t, "a > x", "x > a")
	becomes(t, "abc > x", "x > abc")
	becomes(t, "a > xyz", "xyz > a")
	becomes(t, "abcdefgh > x", "x > abcdefgh")
	becomes(t, "a > xxxxxxxx", "xxxxxxxx > a")
	becomes(t, "abcdefgh > stuvwxyz", "stuvwxyz > abcdefgh")
	becomes(t, "\\b{80}\\x{10FFFF}\\b{FF} > \\x{0}", "\\x{0} > \\b{80}\\x{10FFFF}\\b{FF}")
	// What is written of a place of one unit tells nothing of it.
	becomes(t, "a > @1", "a > a")
	becomes(t, "a > @1@1@1", "aaa > a")
	becomes(t, "a > @1:[x]", "x > a")
	becomes(t, "a > @1:[x]@1@1:[y]", "xay > a")
	becomes(t, "ab > @2@2@1", "bba > ab")
	becomes(t, "\\b{C3} > @1:[x]", "x > \\b{C3}")
	// Copies.
	becomes(t, "[ab] > x@1", "x[ab] > @2")
	becomes(t, "[ab] > @1x", "[ab]x > @1")
	becomes(t, "[ab][cd] > @1@2", "[ab][cd] > @1@2")
	becomes(t, "[ab][cd] > @2@1", "[cd][ab] > @2@1")
	becomes(t, "[ab][cd][ef] > @2@3@1", "[cd][ef][ab] > @3@1@2")
	becomes(t, "[ab][cd][ef] > @3@1@2", "[ef][ab][cd] > @2@3@1")
	becomes(t, "[ab]x[cd] > @3y@1", "[cd]y[ab] > @3x@1")
	becomes(t, "[^\\x{0}]x > zy@1", "zy[^\\x{0}] > @3x")
	// Pairs: what stood at the place comes back by its own set.
	becomes(t, "[ac] > @1:[xy]", "[xy] > @1:[ac]")
	becomes(t, "[ab] > @1:[ab]", "[ab] > @1:[ab]")
	becomes(t, "[ab] > q@1:[xy]r", "q[xy]r > @2:[ab]")
	becomes(t, "[ab][cd] > @2:[xy]@1:[vw]", "[xy][vw] > @2:[ab]@1:[cd]")
	becomes(t, "[\\b{80}\\b{90}] > @1:[xy]", "[xy] > @1:[\\b{80}\\b{90}]")
	becomes(t, "[:stray:] > @1:[\\x{80}-\\x{FF}]", "[\\x{80}-\\x{FF}] > @1:[:stray:]")
	// All of them, in any order of the places.
	becomes(t, "[ab][cd]e > @2z@1:[xy]", "[cd]z[xy] > @3:[ab]@1e")
	becomes(t, "[ab]\\b{C3}[cd] > @3:[xy]@1", "[xy][ab] > @2\\b{C3}@1:[cd]")
	becomes(t, "e[ab]f[cd]g[pq]h[rs] > @8@6:[xy]@4@2:[vw]", "[rs][xy][cd][vw] > e@4:[ab]f@3g@2:[pq]h@1")
	becomes(t, "[ab][cd][ef][gh][ij][kl][mn][op] > @8@7@6@5@4@3@2@1", "[op][mn][kl][ij][gh][ef][cd][ab] > @8@7@6@5@4@3@2@1")
	becomes(t, "a[bc] > @2@1", "[bc]a > a@1")
	becomes(t, "a[bc] > @1@2:[xy]@1", "a[xy]a > a@2:[bc]")
}

func TestEachRuleIsTurned(t *testing.T) { // P19.1: in their order
	becomes(t, "a > x ; b > y ; [cd] > @1:[zw] ; ef > gh", "x > a ; y > b ; [zw] > @1:[cd] ; gh > ef")
	becomes(t, "a > x ; 1 { a > x ; a } 1 > x ; ^ { a > x", "x > a ; 1 { x > a ; x } 1 > a ; ^ { x > a")
	becomes(t, "[ab]c > @2@1 ; ^ { [ab]c > @2@1 ; d > x", "c[ab] > @2 c ; ^ { c[ab] > @2 c ; x > d")
	var p api.Pass
	for n := range 256 {
		p.Rules = append(p.Rules, api.Rule{Key: row(of(0x1000+n, 0x1000+n)), Result: pieces(unit(0x2000 + 3*n)), Cursor: 1})
	}
	turned, n, e := told(t, p)
	if n != 0 || e != api.OK || len(turned.Rules) != 256 {
		t.Fatalf("%d rules, %d, %d", len(turned.Rules), n, e)
	}
	for n, r := range turned.Rules {
		if !slices.Equal(r.Key[0], of(0x2000+3*n, 0x2000+3*n)) || r.Result[0].Unit != 0x1000+n || r.Cursor != 1 {
			t.Errorf("%d: %v", n, r)
		}
	}
	// Backwards it is as it was.
	again, n, e := told(t, turned)
	if !samePass(again, p) || n != 0 || e != api.OK {
		t.Errorf("%s, %d, %d", brief(again), n, e)
	}
}

// over holds what Over tells of a rules' text against the words, and against all units but those of a set, which is written as in a rules' text; none: no unit.
func over(t *testing.T, text, but string) {
	t.Helper()
	told(t, read(t, text))
	want := slices.Clone(all)
	if but != "" {
		// The words of units alone, one by one.
		gone := read(t, but+" > ").Rules[0].Key[0]
		want = nil
		for u := range lastRaw + 1 {
			if !has(all, u) || has(gone, u) {
				continue
			}
			if n := len(want); n > 0 && want[n-1].Hi == u-1 {
				want[n-1].Hi = u
			} else {
				want = append(want, api.Range{Lo: u, Hi: u})
			}
		}
	}
	if s, n, e := turn.Over(read(t, text)); !slices.Equal(s, want) || n != 0 || e != api.OK {
		t.Errorf("%s: %s, %d, %d; want %s", text, shown(s), n, e, shown(want))
	}
}

func TestExamplesOfOver(t *testing.T) { // P19.2
	over(t, "[a-c] > @1:[x-z]", "[xyz]")
	over(t, "a > b ; b > a", "")
	over(t, "a > ae", "")
	over(t, "x } 1 > y", "[y]")
	over(t, "ab > @2@1", "[b]")
	over(t, "[ab] > @1", "")
	over(t, "\\b{C3} > E", "[E]")
	over(t, "a } 1 > x ; a > x", "[x]")
	over(t, "", "")
}

func TestUnitsThatMayStay(t *testing.T) { // P19.2
	// Those of a key of one set, without contexts, may not.
	over(t, "x > y", "[y]")
	over(t, "a > x", "[x]")
	over(t, "a > x ; x > y", "[y]")
	over(t, "x > y ; a > x", "[y]")
	over(t, "a > x ; [w-z] > @1:[C-F]", "[C-F]")
	over(t, "a > x ; xy > z", "[xz]")
	over(t, "a > x ; [ax][ay] > @2@1 z", "[xy]")
	// Each kind of context, and each two.
	over(t, "a > x ; 1 { x > y", "[xy]")
	over(t, "a > x ; x } 1 > y", "[xy]")
	over(t, "a > x ; ^ { x > y", "[xy]")
	over(t, "a > x ; x } $ > y", "[xy]")
	over(t, "a > x ; ^ 1 { x } 2 $ > y", "[xy]")
	over(t, "a > x ; 1 { x } 1 > y", "[xy]")
	over(t, "a > x ; ^ { x } $ > y", "[xy]")
	over(t, "^ { a > b ; b > a", "[a]")
	over(t, "^ { a > b ; b } 1 > a", "[ab]")
	over(t, "^ { a > b ; b > a ; a } $ > b", "[a]")
	// A rule with contexts and one without, in any order.
	over(t, "a > x ; 1 { x > y ; x > y", "[y]")
	over(t, "a > x ; x > y ; 1 { x > y", "[y]")
	// Its own rule's.
	over(t, "a > @1", "")
	over(t, "a > ax", "")
	over(t, "1 { a > @1", "[a]")
	over(t, "a } $ > a", "[a]")
	over(t, "ab > @1@2", "[a]")
}

func TestTheFirstSetOfAnImage(t *testing.T) { // P19.2
	over(t, "a > xy", "[x]")
	over(t, "a > xyz ; b > yy", "[xy]")
	over(t, "a > x@1", "[x]")
	over(t, "[ab] > x@1:[pq]", "[x]")
	over(t, "[ab] > @1:[pq]x", "[pq]")
	over(t, "c[ab] > @2@1", "[ab]")
	over(t, "c[ab] > @2:[pq]@1", "[pq]")
	over(t, "c[ab] > @1@2", "[c]")
	over(t, "a > xy ; b > xz", "[x]")
	over(t, "[ab] > @1:[xy] p ; [cd] > @1:[yz] q", "[xyz]")
	// Some units of it may not stay.
	over(t, "[a-f] > @1:[d-i]", "[g-i]")
	over(t, "[d-i] > @1:[a-f]", "[a-c]")
	over(t, "a > @1:[m] ; [k-m] > @1:[x-z] ; b > n", "[nx-z]")
	over(t, "[b-dx] > @1:[a-d]", "[a]")
	over(t, "[bd] > @1:[ac] ; [c] > e", "[ae]")
	over(t, "9[a-z] > @2 ; [f-h] > @1:[4-6]", "[a-ei-z4-6]")
	over(t, "a > @1 ; [^a] > @1", "")
}

func TestOverAtAllEdges(t *testing.T) { // P19.2
	over(t, "a > \\x{0}", "[\\x{0}]")
	over(t, "a > \\x{10FFFF}", "[\\x{10FFFF}]")
	over(t, "a > \\x{D7FF}", "[\\x{D7FF}]")
	over(t, "a > \\x{E000}", "[\\x{E000}]")
	over(t, "[ab] > @1:[\\x{D7FF}\\x{E000}]", "[\\x{D7FF}\\x{E000}]")
	over(t, "a[^\\x{0}] > @2", "[^\\x{0}]")
	over(t, "a[:rune:] > @2", "[:rune:]")
	over(t, "[:rune:] > @1", "")
	over(t, "[:rune:]1 > @1", "[:rune:]")
	over(t, "[:stray:] > @1:[\\x{80}-\\x{FF}]", "[\\x{80}-\\x{FF}]")
	over(t, "[ab] > @1:[yz] ; [cd] > @1:[wx]", "[w-z]")
	over(t, "[ab] > @1:[wx] ; [cd] > @1:[yz]", "[w-z]")
	over(t, "[ab] > @1:[wy] ; [cd] > @1:[xz]", "[w-z]")
	over(t, "[w-z] > @1:[A-D] ; [ab] > @1:[vw] ; [cd] > @1:[zE]", "[A-Ev]")
}

// many is what Over tells of a pass that can be turned, held against the words: so many ranges, or too many.
func many(t *testing.T, p api.Pass, ranges int) {
	t.Helper()
	is(t, p, 0, api.OK)
	if n := len(overSet(p)); n != ranges {
		t.Fatalf("the words tell %d ranges, not %d", n, ranges)
	}
	s, n, e := turn.Over(p)
	if ranges <= 512 && (len(s) != ranges || n != 0 || e != api.OK) {
		t.Errorf("%d ranges, %d, %d; want %d", len(s), n, e, ranges)
	}
	if ranges > 512 && (s != nil || n != len(p.Rules) || e != api.ErrTurnMany) {
		t.Errorf("%d ranges, %d, %d; want %d, %d", len(s), n, e, len(p.Rules), api.ErrTurnMany)
	}
}

// to is a rule that brings a set to one that has as many units.
func to(key, image api.Set) api.Rule {
	return api.Rule{Key: row(key), Result: pieces(paired(0, image)), Cursor: 1}
}

func TestHowManyRanges(t *testing.T) { // P19.2: ErrTurnMany
	// All units are 3 ranges, and each unit that stands alone and is gone cuts one of them in two.
	for _, n := range []int{1, 2, 508, 509, 510, 511, 512} {
		many(t, rules(to(every(0x1000, n, 2), every(0x10000, n, 2))), 3+n)
		// At the beginning of a range none is cut.
		many(t, rules(to(every(0x1000, n, 2), every(0xE000, n, 2))), 2+n)
		many(t, rules(to(every(0x1000, n, 2), append(of(0, 0), every(0x10000, n-1, 2)...))), 2+n)
	}
	// By several rules, and any number of these.
	for _, n := range []int{2, 3, 255, 256} {
		for _, most := range []int{509, 510} {
			var p api.Pass
			p.Rules = append(p.Rules, to(every(0x1000, most-n+1, 2), every(0x10000, most-n+1, 2)))
			for i := range n - 1 {
				u := 0x20000 + 5*i
				p.Rules = append(p.Rules, to(of(0x3000+i, 0x3000+i), of(u, u)))
			}
			many(t, p, 3+most)
			slices.Reverse(p.Rules)
			many(t, p, 3+most)
		}
	}
	many(t, rules(to(every(0x1000, 512, 2), every(0x10000, 512, 2)), to(every(0x3000, 512, 2), every(0x20000, 512, 2))), 1027)
}

func TestManyRangesOnTheWay(t *testing.T) { // P19.2: those of the answer count alone
	// What is gone: two sets of 512 ranges, which touch.
	odd := to(every(0x1000, 512, 2), every(0x10001, 512, 2))
	even := to(every(0x3000, 512, 2), every(0x10000, 512, 2))
	many(t, rules(odd, even), 4)
	many(t, rules(even, odd), 4)
	// Four of them that do not, of which all but a few units may not stay.
	p := rules(to(every(0x1000, 512, 2), every(0x10000, 512, 8)), to(every(0x2000, 512, 2), every(0x10002, 512, 8)), to(every(0x3000, 512, 2), every(0x10004, 512, 8)), to(every(0x4000, 512, 2), every(0x10006, 512, 8)))
	many(t, p, 3+2048)
	for _, n := range []int{0, 1, 100, 509, 510} {
		free := p
		free.Rules = append(slices.Clone(p.Rules), to(of(0x10000, 0x11000-2*n-1), of(0x50000, 0x50FFF-2*n)))
		many(t, free, 3+1+n)
		slices.Reverse(free.Rules)
		many(t, free, 3+1+n)
	}
	// What may not stay: in more ranges than a set may have, too.
	p = rules(to(every(0x1000, 512, 2), every(0x1000, 512, 2)), to(every(0x2000, 512, 2), every(0x2000, 512, 2)), to(every(0x3000, 512, 2), every(0x3000, 512, 2)))
	many(t, p, 3)
	p.Rules = append(p.Rules, to(of('a', 'a'), of('b', 'b')))
	many(t, p, 4)
	// Where a context is wanted, all of them may.
	p.Rules[0].Begin = true
	many(t, p, 4+512)
}

func TestOverRefusesWhatTurnDoes(t *testing.T) { // P19.2: ahead of too many ranges
	p := rules(to(every(0x1000, 512, 2), every(0x10000, 512, 2)))
	for text, code := range wrong {
		is(t, rules(p.Rules[0], read(t, text).Rules[0]), 1, code)
		is(t, rules(read(t, text).Rules[0], p.Rules[0]), 0, code)
	}
	for _, x := range clashes {
		is(t, rules(append(slices.Clone(p.Rules), read(t, x.one+";"+x.other).Rules...)...), 2, x.code)
	}
	is(t, rules(append(slices.Clone(p.Rules), read(t, "p > | p").Rules...)...), 1, api.ErrWeighMost)
	if s, n, e := turn.Over(rules(slices.Repeat(p.Rules, 257)...)); s != nil || n != 0 || e != api.ErrRuleMany {
		t.Errorf("%s, %d, %d", shown(s), n, e)
	}
	if s, n, e := turn.Over(rules(slices.Repeat(p.Rules, 256)...)); s != nil || n != 256 || e != api.ErrTurnMany {
		t.Errorf("%s, %d, %d", shown(s), n, e)
	}
	if text := strings.Repeat("a > x ;", 256); len(read(t, text).Rules) == 256 {
		over(t, text, "[x]")
	}
}
