package judge_test

import (
	"math"
	"slices"
	"strings"
	"testing"

	"respell/api"
	"respell/weigh"
)

// illegal is passes that weigh.Check refuses, and why: each of its errors.
var illegal = []struct {
	rules []api.Rule
	code  api.Errno
}{
	{[]api.Rule{{}}, api.ErrRuleKey},
	{[]api.Rule{{Key: slices.Repeat(row(of('a', 'a')), 9), Result: pieces(unit('x')), Cursor: 1}}, api.ErrRuleKey},
	{[]api.Rule{{Key: row(of('b', 'a')), Result: pieces(unit('x')), Cursor: 1}}, api.ErrRuleSet},
	{[]api.Rule{{Key: row(of('a', 'a')), Ante: row(of(0, maxRune)), Result: pieces(unit('x')), Cursor: 1}}, api.ErrRuleSet},
	{[]api.Rule{{Key: row(of('a', 'a')), Post: slices.Repeat(row(of('1', '1')), 9), Result: pieces(unit('x')), Cursor: 1}}, api.ErrRuleMany},
	{[]api.Rule{{Key: row(of('a', 'a')), Result: slices.Repeat(pieces(unit('x')), 17), Cursor: 17}}, api.ErrRuleMany},
	{slices.Repeat([]api.Rule{{Key: row(of('a', 'a')), Result: pieces(unit('x')), Cursor: 1}}, 257), api.ErrRuleMany},
	{[]api.Rule{{Key: row(of('a', 'a')), Result: pieces(unit(0xD800)), Cursor: 1}}, api.ErrRulePiece},
	{[]api.Rule{{Key: row(of('a', 'a')), Result: pieces(api.Piece{}), Cursor: 1}}, api.ErrRulePiece},
	{[]api.Rule{{Key: row(of('a', 'a')), Result: pieces(again(1)), Cursor: 1}}, api.ErrRuleCopy},
	{[]api.Rule{{Key: row(of('a', 'a')), Result: pieces(paired(0, of('x', 'z'))), Cursor: 1}}, api.ErrRulePair},
	{[]api.Rule{{Key: row(of('a', 'a')), Result: pieces(unit('x')), Cursor: 2}}, api.ErrRuleCursor},
	{[]api.Rule{{Key: row(of('a', 'a')), Result: pieces(unit('x')), Cursor: -1}}, api.ErrRuleCursor},
	{[]api.Rule{{Key: row(of('a', 'a')), Result: pieces(again(0))}}, api.ErrWeighBack},
	{[]api.Rule{{Key: row(of('a', 'a'), of('b', 'b')), Result: pieces(again(1), again(1))}}, api.ErrWeighBack},
	{[]api.Rule{{Key: row(of('a', 'a')), Result: pieces(unit('a'))}}, api.ErrWeighMost},
	{[]api.Rule{{Key: row(of('a', 'a')), Result: pieces(unit('b'))}, {Key: row(of('b', 'b')), Result: pieces(unit('a'))}}, api.ErrWeighMost},
}

// one is n ranges of a unit each, of which no two touch.
func one(n int) api.Set {
	var s api.Set
	for i := range n {
		s = append(s, api.Range{Lo: 2 * i, Hi: 2 * i})
	}
	return s
}

// noSets is ranges that are no set, of each form.
var noSets = []api.Set{
	of('b', 'a'), of(1, 0), of(0, -1), of('a', 'c', 'f', 'e'), of('b', 'a', 'x', 'z'), // above their ends
	of('a', 'b', 'c', 'd'), of('a', 'a', 'b', 'b'), of(firstRaw, firstRaw, firstRaw+1, lastRaw), of(0, 0xFFF, 0x1000, maxRune), // touching
	of('a', 'c', 'c', 'd'), of('a', 'c', 'b', 'd'), of('a', 'z', 'b', 'c'), of('a', 'a', 'a', 'a'), // overlapping
	of('x', 'z', 'a', 'c'), of('c', 'c', 'a', 'a'), of(firstRaw, firstRaw, 'a', 'a'), // falling
	of(0xD800, 0xD800), of(0xDFFF, 0xDFFF), of(0xD7FF, 0xE000), of(0xD7FF, 0xD800), of(0xDFFF, 0xE000), of(0, maxRune), of('a', 'a', 0xDC00, 0xDC00), // with what is no rune
	of(maxRune, 0x110000), of(0x110000, 0x110000), of(maxRune, firstRaw), of(0x11007F, firstRaw), of(lastRaw, lastRaw+1), of(lastRaw+1, lastRaw+1), of(0, lastRaw), // beyond runes and strays
	of(-1, -1), of(-1, 5), of(math.MinInt, math.MinInt), of(math.MinInt, math.MaxInt), of(math.MaxInt, math.MaxInt), of(math.MaxInt, math.MinInt), of(0, math.MaxInt), of('a', 'a', math.MinInt, math.MaxInt), // far out
	one(513), one(600), slices.Repeat(of('a', 'a'), 100000), make(api.Set, 2), // too many, or the same again
}

var (
	badMosts = []int{-1, -2, -4096, math.MinInt, 4097, 4098, 8192, 1 << 20, 1 << 32, math.MaxInt}
	tooGreat = []struct {
		over api.Set
		most int
	}{{in("ab"), 20}, {in("ab"), 4096}, {everything, 1}, {everything, 4096}, {of('a', 'a'+1023), 2}}
)

// refused holds that Differ tells an error alone, of p and q as they come. If it does not, no more is asked: what comes next may take very long then.
func refused(t *testing.T, p, q api.Pass, over api.Set, most int, code api.Errno) {
	t.Helper()
	if got := differ(p, q, over, most); got != (answer{code: code}) {
		t.Fatalf("%s and %s over %s, %d: %v; want %d", brief(p), brief(q), brief(over), most, got, code)
	}
}

func TestPassesThatMayNotBe(t *testing.T) { // P22.1: p's error first, then q's
	good, other := read(t, "q > r"), read(t, "q > s")
	for _, x := range illegal {
		for _, bad := range []api.Pass{rules(x.rules...), rules(slices.Concat(good.Rules, x.rules)...)} {
			for _, over := range []api.Set{in("q"), in("ab"), everything, nil} {
				for _, most := range []int{0, 1, 2, 4096, -1, 4097} {
					refused(t, bad, good, over, most, x.code)
					refused(t, other, bad, over, most, x.code)
					refused(t, bad, bad, over, most, x.code)
				}
			}
			// Of two that may not be the first one's is told, whatever it is.
			for _, y := range illegal {
				refused(t, bad, rules(y.rules...), in("q"), 1, x.code)
				refused(t, rules(y.rules...), bad, in("q"), 1, y.code)
			}
			for _, over := range noSets {
				refused(t, bad, good, over, 1, x.code)
				refused(t, good, bad, over, 1, x.code)
				refused(t, good, bad, over, -1, x.code)
			}
		}
		if _, e := weigh.Check(rules(x.rules...)); e != x.code {
			t.Errorf("%s: the test is wrong: %d", brief(x.rules), e)
		}
	}
}

func TestWhatIsNoSet(t *testing.T) { // P22.1
	p, q := read(t, "a > b"), read(t, "b > a")
	for _, over := range noSets {
		for _, most := range slices.Concat([]int{0, 1, 2, 20, 4096}, badMosts) {
			refused(t, p, q, over, most, api.ErrSetRow)
			refused(t, p, p, over, most, api.ErrSetRow)
			refused(t, api.Pass{}, api.Pass{}, over, most, api.ErrSetRow)
		}
	}
	// These are some, for all that they look like those.
	for _, over := range []api.Set{nil, {}, of(0, 0), of('a', 'a', 'c', 'c'), of(0xD7FF, 0xD7FF, 0xE000, 0xE000), of(maxRune, maxRune, firstRaw, firstRaw), of(lastRaw, lastRaw), one(512)} {
		is(t, api.Pass{}, api.Pass{}, over, 1, same)
		is(t, read(t, ". >"), api.Pass{}, over, 0, same)
		if len(over) > 0 {
			is(t, read(t, ". >"), api.Pass{}, over, 1, told(bytesOf(over[0].Lo)))
		}
	}
}

func TestNumbersThatMayNotBe(t *testing.T) { // P22.1
	p, q := read(t, "a > b"), read(t, "b > a")
	for _, most := range badMosts {
		for _, over := range []api.Set{in("a"), in("ab"), mixed, everything, one(512), in("x"), nil} {
			refused(t, p, q, over, most, api.ErrArg)
			refused(t, p, p, over, most, api.ErrArg)
			refused(t, api.Pass{}, api.Pass{}, over, most, api.ErrArg)
		}
	}
	is(t, p, q, in("a"), 0, same)
	is(t, p, q, in("a"), 4096, told("a"))
	is(t, p, p, nil, 4096, same)
}

func TestTooManyTexts(t *testing.T) { // P22.1
	changed, none := read(t, ". >"), api.Pass{}
	for _, x := range tooGreat {
		refused(t, changed, none, x.over, x.most, api.ErrJudgeMany)
		refused(t, none, none, x.over, x.most, api.ErrJudgeMany)
	}
	// Rows are counted as they are, of all lengths together; also those that are no texts.
	for n, most := range map[int]int{2: 19, 3: 12, 4: 9, 5: 8, 6: 7, 7: 7, 8: 6, 10: 5, 11: 5, 15: 5, 16: 4, 17: 4, 31: 4, 32: 3, 100: 3, 101: 3, 102: 2, 1023: 2, 1024: 1, 65536: 1, many - 1: 1, many: 0, 1112192: 0} {
		over := everything
		if n < 1112192 {
			over = slices.DeleteFunc(of(0, min(n-1, 0xD7FF), 0xE000, 0xE000+n-1-0xD800), func(r api.Range) bool { return r.Lo > r.Hi })
		}
		if size(over) != n {
			t.Fatalf("the test is wrong: %d, not %d", size(over), n)
		}
		for m := range 40 {
			want, code := told("\x00"), codeByWords(none, none, true, n, m)
			if (code == api.OK) != (m <= most) {
				t.Fatalf("the test is wrong: %d, %d: %d", n, m, code)
			}
			if m > most {
				want = answer{code: api.ErrJudgeMany}
			} else if m == 0 {
				want = same
			}
			is(t, changed, none, over, m, want)
		}
	}
	for n := firstRaw + 19; n <= lastRaw; n++ {
		strays := of(firstRaw, n)
		if k := size(strays); k > 101 {
			refused(t, changed, none, strays, 3, api.ErrJudgeMany)
		} else {
			is(t, changed, none, strays, 3, told("\x80"))
		}
	}
}

func TestCountsThatPassEveryNumber(t *testing.T) { // P22.1
	changed, none := read(t, ". >"), api.Pass{}
	for _, n := range []int{2, 3, 4, 5, 6, 7, 15, 16, 17, 255, 256, 257, 1000, 0x7FFF, 0x8000, 0xD7FF} {
		for _, most := range []int{20, 21, 30, 31, 32, 33, 39, 40, 41, 42, 62, 63, 64, 65, 100, 127, 128, 129, 1000, 1023, 1024, 2048, 4095, 4096} {
			refused(t, changed, none, of(0, n-1), most, api.ErrJudgeMany)
		}
	}
	for _, over := range []api.Set{everything, everything[:2], of(0, 0xD7FF, 0xE000, 0x107FF), of(0, 0xD7FF, 0xE000, 0x1007FF), of(0, 0xD7FF, 0xE000, many+0x7FF)} { // all units and runes; 2 to the 16th, (nearly) to the 20th
		for most := 3; most <= 4096; most++ {
			if got := differ(changed, none, over, most); got != (answer{code: api.ErrJudgeMany}) {
				t.Fatalf("%s, %d: %v", brief(over), most, got)
			}
		}
	}
}

func TestAsManyTextsAsMayBe(t *testing.T) { // P22.1: MaxJudge, the empty one counted
	t.Parallel()
	over := of(0, 0xD7FF, 0xE000, many+0x7FE)
	last := exact([]int{many + 0x7FE})
	if size(over) != many-1 {
		t.Fatalf("the test is wrong: %d", size(over))
	}
	if got := differ(last, api.Pass{}, over, 1); got != told(bytesOf(many+0x7FE)) {
		t.Error(got)
	}
	refused(t, last, api.Pass{}, of(0, 0xD7FF, 0xE000, many+0x7FF), 1, api.ErrJudgeMany)
	// 1 + 1023 + 1023 * 1023.
	over = of('a', 'a'+1022)
	if got := differ(exact([]int{'a' + 1022, 'a' + 1022}), api.Pass{}, over, 2); got != told(bytesOf('a'+1022, 'a'+1022)) {
		t.Error(got)
	}
	refused(t, last, api.Pass{}, of('a', 'a'+1023), 2, api.ErrJudgeMany)
}

func TestTheLongestOfTwoUnits(t *testing.T) { // P22.1: 2 to the 20th, but for one
	t.Parallel()
	p := read(t, "^ bbbbbbbb { bbbbbbbb } bbb $ > x")
	if got := differ(p, api.Pass{}, in("ab"), 19); got != told(strings.Repeat("b", 19)) {
		t.Error(got)
	}
	refused(t, p, api.Pass{}, in("ab"), 20, api.ErrJudgeMany)
}

func TestWhichErrorIsTold(t *testing.T) { // P22.1: where two apply
	good, bad := read(t, "q > r"), rules(illegal[0].rules...)
	for _, x := range tooGreat {
		for _, over := range noSets {
			refused(t, bad, good, over, x.most, api.ErrRuleKey)
			refused(t, good, bad, over, x.most, api.ErrRuleKey)
			refused(t, good, good, over, x.most, api.ErrSetRow)
		}
		for _, most := range badMosts {
			refused(t, bad, good, x.over, most, api.ErrRuleKey)
			refused(t, good, bad, x.over, most, api.ErrRuleKey)
			refused(t, good, good, x.over, most, api.ErrArg)
		}
		refused(t, bad, good, x.over, x.most, api.ErrRuleKey)
		refused(t, good, bad, x.over, x.most, api.ErrRuleKey)
		refused(t, good, good, x.over, x.most, api.ErrJudgeMany)
	}
}
