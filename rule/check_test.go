package rule_test

import (
	"fmt"
	"math"
	"slices"
	"testing"

	"respell/api"
	"respell/rule"
)

// How rules are written in these tests.

func of(n ...int) api.Set {
	var s api.Set
	for i := 0; i+1 < len(n); i += 2 {
		s = append(s, api.Range{Lo: n[i], Hi: n[i+1]})
	}
	return s
}

// every is n units, from the first on, with one number between each two.
func every(first, n int) api.Set {
	var s api.Set
	for i := range n {
		s = append(s, api.Range{Lo: first + 2*i, Hi: first + 2*i})
	}
	return s
}

func row(l ...api.Set) []api.Set { return l }

func pieces(l ...api.Piece) []api.Piece { return l }

func unit(u int) api.Piece               { return api.Piece{Kind: api.PUnit, Unit: u} }
func again(k int) api.Piece              { return api.Piece{Kind: api.PCopy, Key: k} }
func paired(k int, to api.Set) api.Piece { return api.Piece{Kind: api.PPair, Key: k, To: to} }

const (
	maxRune  = 0x10FFFF
	firstRaw = 0x110080
	lastRaw  = 0x1100FF
)

var (
	a      = of('a', 'a')
	abc    = of('a', 'c')
	xyz    = of('x', 'z')
	digits = of('0', '9')
	all    = of(0, 0xD7FF, 0xE000, maxRune, firstRaw, lastRaw)
	strays = of(firstRaw, lastRaw)
)

// goodSets have a unit each; badSets are no sets, each for one reason, or have none.
var goodSets = []api.Set{
	of(0, 0), a, abc, of('a', 'a', 'c', 'c'), of(0xD7FF, 0xD7FF, 0xE000, 0xE000), of(maxRune, maxRune), of(firstRaw, firstRaw), of(lastRaw, lastRaw), strays, all, of(0, 0xD7FF, 0xE000, maxRune), of(maxRune, maxRune, firstRaw, firstRaw), every(0, 512),
}

var badSets = []api.Set{
	nil, {}, of('b', 'b')[:0],
	of('b', 'a'), of('x', 'z', 'a', 'c'), of('a', 'b', 'c', 'd'), of('a', 'c', 'c', 'e'), of('a', 'c', 'a', 'c'), of('a', 'c', 'z', 'x'),
	of(-1, -1), of(-1, 3), of(0xD800, 0xD800), of(0xD7FF, 0xE000), of(0xDFFF, 0xDFFF), of(0, maxRune), of(maxRune, firstRaw), of(0x110000, 0x110000), of(0x11007F, firstRaw), of(lastRaw, 0x110100), of(0x110100, 0x110100),
	of(math.MinInt, math.MaxInt), of(math.MaxInt, math.MinInt), of('a', math.MaxInt), of(math.MinInt, 'a'), of(1<<32+'a', 1<<32+'c'),
	every(0, 513),
}

var goodUnits = []int{0, 1, 'a', 0x7F, 0x80, 0xFF, 0x7FF, 0x800, 0xD7FE, 0xD7FF, 0xE000, 0xE001, 0xFFFD, 0xFFFF, 0x10000, maxRune - 1, maxRune, firstRaw, firstRaw + 1, 0x1100C3, lastRaw - 1, lastRaw}

var noUnits = []int{math.MinInt, math.MinInt + 1, -1 << 32, -0x110000, -2, -1, 0xD800, 0xD801, 0xDBFF, 0xDC00, 0xDFFE, 0xDFFF, 0x110000, 0x110041, 0x11007F, 0x110100, 0x110101, 1 << 32, 1<<32 + 'a', math.MaxInt - 1, math.MaxInt}

// full is a rule that may be, with something in all fields and each kind of piece; it has no memory in common with any other.
func full() api.Rule {
	return api.Rule{
		Begin: true, Ante: row(of('k', 'k'), slices.Clone(strays), slices.Clone(all)), Key: row(of('a', 'c'), of('0', '9'), of('p', 'p', 'r', 'r')), Post: row(of('l', 'l'), of('m', 'n'), of(0, 9)), End: true,
		Result: pieces(unit('x'), again(1), paired(0, of('x', 'z')), paired(2, of(0xD7FF, 0xD7FF, 0xE000, 0xE000))), Cursor: 2,
	}
}

func checks(t *testing.T, r api.Rule, want api.Errno) {
	t.Helper()
	if e := rule.Check(r); e != want {
		t.Errorf("%.300v: %d, not %d", fmt.Sprint(r), e, want)
	}
}

func TestCheckExamples(t *testing.T) { // P7.1
	checks(t, api.Rule{Key: row(a)}, api.OK)
	checks(t, api.Rule{Post: slices.Repeat(row(a), 9)}, api.ErrRuleKey)
	checks(t, api.Rule{Key: row(a), Result: pieces(again(1))}, api.ErrRuleCopy)
	checks(t, api.Rule{Key: row(abc), Result: pieces(paired(0, of('x', 'y')))}, api.ErrRulePair)
	checks(t, full(), api.OK)
	checks(t, api.Rule{}, api.ErrRuleKey)
}

func TestHowManySets(t *testing.T) { // P7.1
	for n := range 20 {
		sets := slices.Repeat(row(abc), n)
		wantKey, wantNear := api.OK, api.OK
		if n < 1 || n > 8 {
			wantKey = api.ErrRuleKey
		}
		if n > 8 {
			wantNear = api.ErrRuleMany
		}
		r := full()
		r.Key, r.Result, r.Cursor = sets, nil, 0
		checks(t, r, wantKey)
		checks(t, api.Rule{Key: sets}, wantKey)
		r = full()
		r.Ante = sets
		checks(t, r, wantNear)
		r = full()
		r.Post = sets
		checks(t, r, wantNear)
	}
	eight := slices.Repeat(row(abc), 8)
	checks(t, api.Rule{Ante: eight, Key: eight, Post: eight, Result: slices.Repeat(pieces(again(7)), 16), Cursor: 16}, api.OK)
}

func TestHowManyPieces(t *testing.T) { // P7.1
	for _, p := range []api.Piece{unit('a'), again(0), paired(0, xyz)} {
		for n := range 20 {
			want := api.OK
			if n > 16 {
				want = api.ErrRuleMany
			}
			for cursor := range n + 1 {
				checks(t, api.Rule{Key: row(abc), Result: slices.Repeat(pieces(p), n), Cursor: cursor}, want)
			}
		}
	}
}

func TestSetsOfARule(t *testing.T) { // P7.1
	at := []func(r *api.Rule) []api.Set{func(r *api.Rule) []api.Set { return r.Ante }, func(r *api.Rule) []api.Set { return r.Key }, func(r *api.Rule) []api.Set { return r.Post }}
	for _, list := range at {
		for place := range 3 {
			put := func(s api.Set, want api.Errno) {
				t.Helper()
				r := full()
				r.Result, r.Cursor = nil, 0
				list(&r)[place] = s
				checks(t, r, want)
			}
			for _, s := range goodSets {
				put(s, api.OK)
			}
			for _, s := range badSets {
				put(s, api.ErrRuleSet)
			}
		}
	}
}

func TestPiecesThatAreUnits(t *testing.T) { // P7.1
	check := func(p api.Piece, want api.Errno) {
		t.Helper()
		for _, key := range [][]api.Set{row(a), row(abc, digits), slices.Repeat(row(abc), 8)} {
			checks(t, api.Rule{Key: key, Result: pieces(p)}, want)
		}
	}
	for _, u := range goodUnits {
		check(unit(u), api.OK)
		check(api.Piece{Kind: api.PUnit, Unit: u, To: api.Set{}}, api.OK)
		for _, k := range []int{math.MinInt, -1, 1, 2, 8, 1 << 32, math.MaxInt} {
			check(api.Piece{Kind: api.PUnit, Unit: u, Key: k}, api.ErrRulePiece)
		}
		for _, s := range slices.Concat(goodSets, badSets[3:]) {
			check(api.Piece{Kind: api.PUnit, Unit: u, To: s}, api.ErrRulePiece)
		}
	}
	for _, u := range noUnits {
		check(unit(u), api.ErrRulePiece)
	}
}

func TestPiecesThatAreCopies(t *testing.T) { // P7.1
	for n := 1; n <= 8; n++ {
		key := slices.Repeat(row(abc), n)
		for _, k := range []int{math.MinInt, -1 << 32, -2, -1, 0, 1, 2, 3, 4, 5, 6, 7, 8, 9, 1 << 32, math.MaxInt} {
			want, wantPair := api.ErrRuleCopy, api.ErrRuleCopy
			if k >= 0 && k < n {
				want, wantPair = api.OK, api.ErrRulePair
			}
			checks(t, api.Rule{Key: key, Result: pieces(again(k))}, want)
			checks(t, api.Rule{Key: key, Result: pieces(api.Piece{Kind: api.PCopy, Key: k, To: api.Set{}})}, want)
			checks(t, api.Rule{Key: key, Result: pieces(paired(k, xyz))}, want)
			checks(t, api.Rule{Key: key, Result: pieces(paired(k, of('z', 'x')))}, wantPair)
			// A unit that is filled is refused, wherever the key points.
			for _, u := range []int{math.MinInt, -1, 1, 'a', 0xD800, math.MaxInt} {
				checks(t, api.Rule{Key: key, Result: pieces(api.Piece{Kind: api.PCopy, Unit: u, Key: k})}, api.ErrRulePiece)
				checks(t, api.Rule{Key: key, Result: pieces(api.Piece{Kind: api.PPair, Unit: u, Key: k, To: xyz})}, api.ErrRulePiece)
				checks(t, api.Rule{Key: key, Result: pieces(api.Piece{Kind: api.PPair, Unit: u, Key: k})}, api.ErrRulePiece)
			}
			for _, s := range slices.Concat(goodSets, badSets[3:]) {
				checks(t, api.Rule{Key: key, Result: pieces(api.Piece{Kind: api.PCopy, Key: k, To: s})}, api.ErrRulePiece)
			}
		}
	}
}

func TestPiecesThatArePairs(t *testing.T) { // P7.1
	sizes := make([]int, len(goodSets))
	for i, s := range goodSets {
		sizes[i] = len(units(s))
	}
	for i, from := range goodSets {
		for k, to := range goodSets {
			want := api.ErrRulePair
			if sizes[i] == sizes[k] {
				want = api.OK
			}
			checks(t, api.Rule{Key: row(from), Result: pieces(paired(0, to))}, want)
			checks(t, api.Rule{Key: row(a, from, abc), Result: pieces(unit('x'), paired(1, to))}, want)
		}
		for _, to := range badSets {
			checks(t, api.Rule{Key: row(from), Result: pieces(paired(0, to))}, api.ErrRulePair)
		}
	}
	// As many units as the set at its own place has, not as another one's.
	for k, n := range []int{1, 3, 10} {
		for size := range 14 {
			want := api.ErrRulePair
			if size == n {
				want = api.OK
			}
			checks(t, api.Rule{Key: row(a, abc, digits), Result: pieces(paired(k, every(0x400, size)))}, want)
			checks(t, api.Rule{Key: row(a, abc, digits), Result: pieces(paired(k, of('A', 'A'+size-1)))}, want)
		}
	}
}

func TestWhatIsNoKindOfPiece(t *testing.T) { // P7.1
	for _, kind := range []int{math.MinInt, -1, 0, 4, 5, 256 + 1, 256 + 2, 256 + 3, 1<<32 + 1, 1<<32 + 2, 1<<32 + 3, math.MaxInt} {
		for _, p := range []api.Piece{{}, unit('a'), again(0), again(9), paired(0, xyz), paired(9, xyz), paired(0, nil), unit(-1)} {
			p.Kind = kind
			checks(t, api.Rule{Key: row(abc), Result: pieces(p)}, api.ErrRulePiece)
			checks(t, api.Rule{Key: row(abc), Result: pieces(unit('a'), p), Cursor: 1}, api.ErrRulePiece)
		}
	}
}

// faulty are pieces, and what is wrong with them where the key is one set of three.
var faulty = []struct {
	piece api.Piece
	code  api.Errno
}{
	{api.Piece{}, api.ErrRulePiece}, {unit(-1), api.ErrRulePiece}, {api.Piece{Kind: api.PCopy, Unit: 1, Key: 5}, api.ErrRulePiece}, {api.Piece{Kind: api.PPair, Unit: 1, Key: 5}, api.ErrRulePiece}, {api.Piece{Kind: api.PCopy, Key: 5, To: abc}, api.ErrRulePiece},
	{again(5), api.ErrRuleCopy}, {again(-1), api.ErrRuleCopy}, {paired(1, xyz), api.ErrRuleCopy}, {paired(-1, of(5, 4)), api.ErrRuleCopy},
	{paired(0, of(5, 4)), api.ErrRulePair}, {paired(0, a), api.ErrRulePair}, {paired(0, nil), api.ErrRulePair},
}

func TestTheFirstFaultyPieceShows(t *testing.T) { // P7.1
	good := pieces(unit('a'), again(0), paired(0, xyz), unit(lastRaw))
	for _, x := range faulty {
		for place := range len(good) + 1 {
			checks(t, api.Rule{Key: row(abc), Result: slices.Insert(slices.Clone(good), place, x.piece)}, x.code)
			for _, y := range faulty {
				for second := place + 1; second < len(good)+2; second++ {
					l := slices.Insert(slices.Insert(slices.Clone(good), place, x.piece), second, y.piece)
					checks(t, api.Rule{Key: row(abc), Result: l}, x.code)
					checks(t, api.Rule{Key: row(abc), Result: l, Cursor: -1}, x.code)
				}
			}
		}
	}
}

func TestCursors(t *testing.T) { // P7.1
	for n := range 17 {
		for _, cursor := range []int{math.MinInt, -1 << 32, -2, -1, 0, 1, 2, 7, 8, 15, 16, 17, n - 1, n, n + 1, 1 << 32, math.MaxInt} {
			want := api.ErrRuleCursor
			if cursor >= 0 && cursor <= n {
				want = api.OK
			}
			checks(t, api.Rule{Key: row(abc, a), Result: slices.Repeat(pieces(unit('a')), n), Cursor: cursor}, want)
		}
	}
}

func TestBeginAndEndMayBeAnything(t *testing.T) { // P7.1
	for n := range 16 {
		r := api.Rule{Key: row(a), Begin: n&1 > 0, End: n&2 > 0}
		if n&4 > 0 {
			r.Ante = row(abc)
		}
		if n&8 > 0 {
			r.Post = row(abc)
		}
		checks(t, r, api.OK)
		r.Result, r.Cursor = pieces(again(0)), 1
		checks(t, r, api.OK)
		r.Cursor = 2
		checks(t, r, api.ErrRuleCursor)
		r.Key = nil
		checks(t, r, api.ErrRuleKey)
	}
}

// flaw makes a rule one that may not be. Those of later rows of the table are put in first, so that none of them takes another one away.
type flaw struct {
	code api.Errno
	put  func(r *api.Rule)
}

var flaws = []flaw{
	{api.ErrRuleKey, func(r *api.Rule) { r.Key = nil }},
	{api.ErrRuleKey, func(r *api.Rule) { r.Key = slices.Concat(r.Key, slices.Repeat(r.Key, 3)) }},
	{api.ErrRuleMany, func(r *api.Rule) { r.Ante = slices.Concat(r.Ante, slices.Repeat(r.Ante, 2)) }},
	{api.ErrRuleMany, func(r *api.Rule) { r.Post = slices.Concat(r.Post, slices.Repeat(r.Post, 2)) }},
	{api.ErrRuleMany, func(r *api.Rule) { r.Result = slices.Repeat(r.Result, 5) }},
	{api.ErrRuleSet, func(r *api.Rule) { r.Ante[1] = of('b', 'a') }},
	{api.ErrRuleSet, func(r *api.Rule) { r.Key[1] = of('b', 'a') }},
	{api.ErrRuleSet, func(r *api.Rule) { r.Post[2] = nil }},
	{api.ErrRulePiece, func(r *api.Rule) { r.Result[0].Kind = 4 }},
	{api.ErrRuleCopy, func(r *api.Rule) { r.Result[1].Key = 99 }},
	{api.ErrRulePair, func(r *api.Rule) { r.Result[2].To = of('x', 'y') }},
	{api.ErrRuleCursor, func(r *api.Rule) { r.Cursor = -1 }},
}

func TestOfSeveralErrorsTheFirst(t *testing.T) { // P7.1, R2
	for which := 1; which < 1<<len(flaws); which++ {
		r := full()
		want := api.OK
		for i := len(flaws) - 1; i >= 0; i-- {
			if which>>i&1 > 0 {
				flaws[i].put(&r)
				want = flaws[i].code
			}
		}
		checks(t, r, want)
	}
	// In one piece.
	for _, x := range []struct {
		piece api.Piece
		want  api.Errno
	}{
		{api.Piece{Kind: 4, Unit: -1, Key: 9, To: of(5, 4)}, api.ErrRulePiece}, {api.Piece{Kind: api.PUnit, Unit: -1, Key: 9, To: of(5, 4)}, api.ErrRulePiece},
		{api.Piece{Kind: api.PCopy, Unit: 1, Key: 9, To: of(5, 4)}, api.ErrRulePiece}, {api.Piece{Kind: api.PPair, Unit: 1, Key: 9, To: of(5, 4)}, api.ErrRulePiece}, {api.Piece{Kind: api.PPair, Unit: 1, To: of(5, 4)}, api.ErrRulePiece}, {paired(9, of(5, 4)), api.ErrRuleCopy},
	} {
		checks(t, api.Rule{Key: row(abc), Result: pieces(x.piece), Cursor: 9}, x.want)
	}
}

func allIs(t *testing.T, l []api.Rule, n int, code api.Errno) {
	t.Helper()
	if got, e := rule.All(api.Pass{Rules: l}); got != n || e != code {
		t.Errorf("of %d rules: %d, %d; want %d, %d", len(l), got, e, n, code)
	}
}

func TestAll(t *testing.T) { // P7.2
	allIs(t, nil, 0, api.OK)
	allIs(t, []api.Rule{}, 0, api.OK)
	for _, n := range []int{1, 2, 255, 256} {
		allIs(t, slices.Repeat([]api.Rule{full()}, n), 0, api.OK)
	}
	for _, n := range []int{257, 258, 512, 513, 65536, 65537} {
		allIs(t, slices.Repeat([]api.Rule{full()}, n), 0, api.ErrRuleMany)
		allIs(t, make([]api.Rule, n), 0, api.ErrRuleMany)
	}
}

func TestAllTellsTheFirstThatIsRefused(t *testing.T) { // P7.2, R2
	for _, n := range []int{1, 2, 3, 256} {
		for place := range n {
			for i, x := range flaws {
				l := slices.Repeat([]api.Rule{full()}, n)
				l[place] = full()
				x.put(&l[place])
				allIs(t, l, place, x.code)
				if place+1 < n { // what is wrong behind it is not seen
					l[n-1] = full()
					flaws[(i+1)%len(flaws)].put(&l[n-1])
					allIs(t, l, place, x.code)
					l[place+1] = api.Rule{}
					allIs(t, l, place, x.code)
				}
			}
		}
	}
	// Too many rules are told ahead of a rule that may not be.
	for _, x := range flaws {
		l := slices.Repeat([]api.Rule{full()}, 257)
		for _, place := range []int{256, 5, 0} {
			l[place] = full()
			x.put(&l[place])
			allIs(t, l, 0, api.ErrRuleMany)
		}
	}
}
