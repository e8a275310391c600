package rule_test

import (
	"fmt"
	"math"
	"slices"
	"testing"

	"respell/api"
	"respell/rule"
)

func lays(t *testing.T, r api.Rule, key, done, back []int) {
	t.Helper()
	if d, b := rule.Lays(r, key); !slices.Equal(d, done) || !slices.Equal(b, back) {
		t.Errorf("%.300v over %x: %x, %x; want %x, %x", fmt.Sprint(r), key, d, b, done, back)
	}
}

func nothing(t *testing.T, r api.Rule, key ...int) {
	t.Helper()
	lays(t, r, key, nil, nil)
}

// letters is units that are written as letters.
func letters(s string) []int {
	var l []int
	for _, c := range s {
		l = append(l, int(c))
	}
	return l
}

func TestLaysExamples(t *testing.T) { // P7.3
	r := api.Rule{Key: row(abc, digits), Result: pieces(unit('x'), again(1), paired(0, xyz)), Cursor: 1}
	lays(t, r, letters("b7"), letters("x"), letters("7y"))
	nothing(t, r, 'b', 'b')
	nothing(t, r, 'b')
}

func TestRefusedRulesLayNothing(t *testing.T) { // P7.3
	key := letters("b7r")
	lays(t, full(), key, letters("x7"), []int{'y', 0xE000})
	for _, x := range flaws {
		r := full()
		x.put(&r)
		nothing(t, r, key...)
		nothing(t, r)
		nothing(t, r, slices.Repeat(key, 4)...)
	}
	for _, x := range faulty {
		for cursor := -1; cursor < 4; cursor++ {
			nothing(t, api.Rule{Key: row(abc), Result: pieces(unit('a'), x.piece), Cursor: cursor}, 'b')
			nothing(t, api.Rule{Key: row(abc), Result: pieces(x.piece, unit('a')), Cursor: cursor}, 'b')
		}
	}
	nothing(t, api.Rule{})
	nothing(t, api.Rule{Result: pieces(unit('a')), Cursor: 1})
	nothing(t, api.Rule{Key: row(of('b', 'a')), Result: pieces(unit('a')), Cursor: 1}, 'a')
	nothing(t, api.Rule{Key: slices.Repeat(row(a), 9), Result: pieces(unit('a'))}, letters("aaaaaaaaa")...)
}

func TestKeysThatDoNotStand(t *testing.T) { // P7.3
	for n := 1; n <= 8; n++ {
		var r api.Rule
		var key []int
		for i := range n {
			r.Key, key = append(r.Key, of('A'+i, 'A'+i, 'a'+i, 'a'+i)), append(key, 'A'+i)
		}
		r.Result, r.Cursor = pieces(unit('x'), again(n-1)), 1
		lays(t, r, key, letters("x"), key[n-1:])
		for less := range n {
			nothing(t, r, key[:less]...)
			nothing(t, r, key[less+1:]...)
		}
		nothing(t, r, append(slices.Clone(key), key[0])...)
		nothing(t, r, append(slices.Clone(key), key...)...)
		nothing(t, r, append([]int{key[0]}, key...)...)
		for i := range n {
			for _, u := range slices.Concat(noUnits, []int{'A' + i - 1, 'A' + i + 1, 'a' + i - 1, 'a' + i + 1, '0', 0, lastRaw}) {
				other := slices.Clone(key)
				other[i] = u
				nothing(t, r, other...)
			}
		}
		if n > 1 {
			slices.Reverse(key)
			nothing(t, r, key...)
		}
	}
}

func TestWhatIsNoUnitStandsNowhere(t *testing.T) { // P7.3
	r := api.Rule{Key: row(all), Result: pieces(again(0), unit('x')), Cursor: 1}
	for _, u := range goodUnits {
		lays(t, r, []int{u}, []int{u}, letters("x"))
	}
	for _, u := range noUnits {
		nothing(t, r, u)
	}
}

func TestUnitsAreLaid(t *testing.T) { // P7.3
	for _, u := range goodUnits {
		lays(t, api.Rule{Key: row(abc), Result: pieces(unit(u)), Cursor: 1}, letters("b"), []int{u}, nil)
		lays(t, api.Rule{Key: row(abc), Result: pieces(unit(u))}, letters("b"), nil, []int{u})
		lays(t, api.Rule{Key: row(of(u, u)), Result: pieces(again(0), unit('q')), Cursor: 1}, []int{u}, []int{u}, letters("q"))
	}
	// Contexts, Begin and End aren't asked.
	r := full()
	want, back := rule.Lays(r, letters("b7r"))
	for n := range 16 {
		r.Begin, r.End, r.Ante, r.Post = n&1 > 0, n&2 > 0, full().Ante[:n&4/2], full().Post[:n&8/4]
		lays(t, r, letters("b7r"), want, back)
	}
}

func TestCopiesAreLaid(t *testing.T) { // P7.3
	key := []int{'a', 0xE9, 0xD7FF, 0xE000, maxRune, firstRaw, lastRaw, 0}
	r := api.Rule{Key: slices.Repeat(row(all), 8)}
	for k := range key {
		r.Result, r.Cursor = pieces(again(k), unit('-'), again(7-k), again(k)), 1
		lays(t, r, key, key[k:k+1], []int{'-', key[7-k], key[k]})
	}
	r.Result = nil
	for k := range 16 {
		r.Result = append(r.Result, again(7-k%8))
	}
	r.Cursor = 8
	turned := slices.Clone(key)
	slices.Reverse(turned)
	lays(t, r, key, turned, turned)
}

func TestPairsAreLaid(t *testing.T) { // P7.3
	for _, x := range []struct {
		from, to  api.Set
		key, want []int
	}{
		{a, of('z', 'z'), letters("a"), letters("z")},
		{abc, xyz, letters("abc"), letters("xyz")},
		{abc, abc, letters("abc"), letters("abc")},
		{of('a', 'a', 'c', 'c', 'e', 'f'), of('0', '1', '7', '7', '9', '9'), letters("acef"), letters("0179")},
		{of('a', 'd'), every('0', 4), letters("abcd"), letters("0246")},
		{every('0', 4), of('a', 'd'), letters("0246"), letters("abcd")},
		{of(0xD7FE, 0xD7FF, 0xE000, 0xE001), of('a', 'd'), []int{0xD7FE, 0xD7FF, 0xE000, 0xE001}, letters("abcd")},
		{of('a', 'd'), of(0xD7FE, 0xD7FF, 0xE000, 0xE001), letters("abcd"), []int{0xD7FE, 0xD7FF, 0xE000, 0xE001}},
		{of(maxRune-1, maxRune, firstRaw, firstRaw+1), of('a', 'd'), []int{maxRune - 1, maxRune, firstRaw, firstRaw + 1}, letters("abcd")},
		{of('a', 'd'), of(maxRune-1, maxRune, firstRaw, firstRaw+1), letters("abcd"), []int{maxRune - 1, maxRune, firstRaw, firstRaw + 1}},
		{strays, of(0x100, 0x17F), []int{firstRaw, firstRaw + 1, 0x1100C3, lastRaw}, []int{0x100, 0x101, 0x143, 0x17F}},
		{of(0, 127), strays, []int{0, 1, 'a', 127}, []int{firstRaw, firstRaw + 1, firstRaw + 'a', lastRaw}},
		{all, all, goodUnits, goodUnits},
		{of(0, 0xD7FF, 0xE000, maxRune-1), of(1, 0xD7FF, 0xE000, maxRune), []int{0, 'a', 0xD7FE, 0xD7FF, 0xE000, maxRune - 1}, []int{1, 'b', 0xD7FF, 0xE000, 0xE001, maxRune}},
		{every(0, 512), of(0x1000, 0x11FF), []int{0, 2, 510, 1022}, []int{0x1000, 0x1001, 0x10FF, 0x11FF}},
	} {
		for i, u := range x.key {
			lays(t, api.Rule{Key: row(x.from), Result: pieces(paired(0, x.to)), Cursor: 1}, []int{u}, x.want[i:i+1], nil)
			lays(t, api.Rule{Key: row(digits, x.from), Result: pieces(paired(1, x.to), again(1), unit('-'), paired(1, x.to))}, []int{'5', u}, nil, []int{x.want[i], u, '-', x.want[i]})
		}
	}
	// Each by its own place's set.
	r := api.Rule{Key: row(abc, xyz, digits), Result: pieces(paired(2, of('A', 'J')), paired(1, abc), paired(0, digits[:0:0])), Cursor: 1}
	nothing(t, r, 'b', 'z', '4')
	r.Result[2].To = of('4', '6')
	lays(t, r, letters("bz4"), letters("E"), letters("c5"))
}

func TestWhereTheCursorStands(t *testing.T) { // P7.3, P7.5
	key := letters("b7r")
	r := full()
	want := []int{'x', '7', 'y', 0xE000}
	for cursor := range 5 {
		r.Cursor = cursor
		lays(t, r, key, want[:cursor], want[cursor:])
	}
	for n := range 17 {
		var l []api.Piece
		var told []int
		for i := range n {
			l, told = append(l, unit('a'+i)), append(told, 'a'+i)
		}
		for cursor := range n + 1 {
			lays(t, api.Rule{Key: row(a), Result: l, Cursor: cursor}, letters("a"), told[:cursor], told[cursor:])
		}
	}
	nothing(t, api.Rule{Key: row(a)}, 'a')
}

func TestNilAndEmptyAreTheSame(t *testing.T) { // R3
	r := api.Rule{Key: row(a), Result: pieces(unit('x'), again(0)), Cursor: 1}
	e := api.Rule{Ante: []api.Set{}, Key: row(a), Post: []api.Set{}, Result: pieces(api.Piece{Kind: api.PUnit, Unit: 'x', To: api.Set{}}, api.Piece{Kind: api.PCopy, To: api.Set{}}), Cursor: 1}
	checks(t, r, api.OK)
	checks(t, e, api.OK)
	lays(t, r, letters("a"), letters("x"), letters("a"))
	lays(t, e, letters("a"), letters("x"), letters("a"))
	checks(t, api.Rule{Key: []api.Set{}}, api.ErrRuleKey)
	same(t, r, e, true)
	same(t, api.Rule{}, api.Rule{Ante: []api.Set{}, Key: []api.Set{}, Post: []api.Set{}, Result: []api.Piece{}}, true)
	same(t, api.Rule{Ante: row(nil, a), Key: row(nil), Post: row(api.Set{}, nil), Result: pieces(paired(0, nil))}, api.Rule{Ante: row(api.Set{}, a), Key: row(api.Set{}), Post: row(nil, api.Set{}), Result: pieces(paired(0, api.Set{}))}, true)
}

func same(t *testing.T, x, y api.Rule, want bool) {
	t.Helper()
	if rule.Same(x, y) != want || rule.Same(y, x) != want {
		t.Errorf("%.300v and %.300v: not %v", fmt.Sprint(x), fmt.Sprint(y), want)
	}
}

// changes are what makes another rule of full, a field or an element each.
var changes = []func(r *api.Rule){
	func(r *api.Rule) { r.Begin = false },
	func(r *api.Rule) { r.End = false },
	func(r *api.Rule) { r.Begin, r.End = false, false },
	func(r *api.Rule) { r.Cursor = 1 },
	func(r *api.Rule) { r.Cursor = -2 },
	func(r *api.Rule) { r.Cursor += 1 << 32 },
	func(r *api.Rule) { r.Cursor = math.MaxInt },
	func(r *api.Rule) { r.Ante = nil },
	func(r *api.Rule) { r.Ante = r.Ante[:2] },
	func(r *api.Rule) { r.Ante = r.Ante[1:] },
	func(r *api.Rule) { r.Ante = append(r.Ante, nil) },
	func(r *api.Rule) { r.Ante = append(r.Ante, r.Ante[2]) },
	func(r *api.Rule) { r.Ante[0][0].Lo = 'j' },
	func(r *api.Rule) { r.Ante[0][0].Hi = 'l' },
	func(r *api.Rule) { r.Ante[1] = nil },
	func(r *api.Rule) { r.Ante[1] = append(slices.Clone(r.Ante[1]), of(5, 4)...) },
	func(r *api.Rule) { r.Ante[0], r.Ante[1] = r.Ante[1], r.Ante[0] },
	func(r *api.Rule) { r.Ante = append(r.Ante, a); r.Key = r.Key[1:] },
	func(r *api.Rule) { r.Ante, r.Post = r.Post, r.Ante },
	func(r *api.Rule) { r.Ante, r.Key = r.Key, r.Ante },
	func(r *api.Rule) { r.Key, r.Post = r.Post, r.Key },
	func(r *api.Rule) { r.Key = nil },
	func(r *api.Rule) { r.Key = append(r.Key, a) },
	func(r *api.Rule) { r.Key = r.Key[:2] },
	func(r *api.Rule) { r.Key[0] = of('a', 'b', 'c', 'c') }, // the same units, but not range by range
	func(r *api.Rule) { r.Key[0] = of('c', 'a') },
	func(r *api.Rule) { r.Key[2][0], r.Key[2][1] = r.Key[2][1], r.Key[2][0] },
	func(r *api.Rule) { r.Key[2] = r.Key[2][:1] },
	func(r *api.Rule) { r.Key[2][1].Hi = 's' },
	func(r *api.Rule) { r.Key[1], r.Key[2] = r.Key[2], r.Key[1] },
	func(r *api.Rule) { r.Post = nil },
	func(r *api.Rule) { r.Post = r.Post[:2] },
	func(r *api.Rule) { r.Post = append(r.Post, api.Set{}) },
	func(r *api.Rule) { r.Post[2][0].Lo = 1 },
	func(r *api.Rule) { r.Post[2][0].Hi = math.MaxInt },
	func(r *api.Rule) { r.Post[0], r.Post[2] = r.Post[2], r.Post[0] },
	func(r *api.Rule) { r.Result = nil },
	func(r *api.Rule) { r.Result = r.Result[:3] },
	func(r *api.Rule) { r.Result = r.Result[1:] },
	func(r *api.Rule) { r.Result = append(r.Result, api.Piece{}) },
	func(r *api.Rule) { r.Result[0], r.Result[1] = r.Result[1], r.Result[0] },
	func(r *api.Rule) { r.Result[0].Kind = 0 },
	func(r *api.Rule) { r.Result[0].Unit = 'y' },
	func(r *api.Rule) { r.Result[0].Unit += 1 << 32 },
	func(r *api.Rule) { r.Result[0].Key = 1 }, // whatever stands there
	func(r *api.Rule) { r.Result[0].To = of('x', 'z') },
	func(r *api.Rule) { r.Result[1].Kind = api.PPair },
	func(r *api.Rule) { r.Result[1].Unit = 1 },
	func(r *api.Rule) { r.Result[1].Key = 0 },
	func(r *api.Rule) { r.Result[1].Key = -1 },
	func(r *api.Rule) { r.Result[1].To = of(5, 4) },
	func(r *api.Rule) { r.Result[2].Kind = api.PCopy },
	func(r *api.Rule) { r.Result[2].Unit = -1 },
	func(r *api.Rule) { r.Result[2].Key = 1 },
	func(r *api.Rule) { r.Result[2].To = nil },
	func(r *api.Rule) { r.Result[2].To[0].Lo = 'w' },
	func(r *api.Rule) { r.Result[2].To[0].Hi = 'y' },
	func(r *api.Rule) { r.Result[2].To = of('x', 'y', 'z', 'z') },
	func(r *api.Rule) { r.Result[3].To = r.Result[3].To[:1] },
	func(r *api.Rule) { r.Result[3].To[0], r.Result[3].To[1] = r.Result[3].To[1], r.Result[3].To[0] },
	func(r *api.Rule) { r.Result[3].To = append(r.Result[3].To, r.Result[3].To[1]) },
}

func TestSame(t *testing.T) { // P7.4
	rules := []api.Rule{full(), {}}
	for _, change := range changes {
		r := full()
		change(&r)
		rules = append(rules, r)
	}
	for i, x := range rules {
		same(t, x, copyOf(x), true)
		same(t, copyOf(x), copyOf(x), true)
		for _, y := range rules[:i] {
			same(t, x, y, false)
		}
	}
}

func TestSameIsNotWhatTheyDo(t *testing.T) { // P7.4
	one := func(p api.Piece) api.Rule { return api.Rule{Key: row(a), Result: pieces(p), Cursor: 1} }
	l := []api.Rule{one(unit('a')), one(again(0)), one(paired(0, a))}
	for i, x := range l {
		lays(t, x, letters("a"), letters("a"), nil)
		for k, y := range l {
			same(t, x, y, i == k)
		}
	}
	same(t, api.Rule{Cursor: -5}, api.Rule{Cursor: -5}, true)
	same(t, api.Rule{Cursor: -5}, api.Rule{Cursor: 5}, false)
	same(t, api.Rule{Result: pieces(api.Piece{Kind: 9, Unit: -1, Key: -1, To: of(5, 4)})}, api.Rule{Result: pieces(api.Piece{Kind: 9, Unit: -1, Key: -1, To: of(5, 4)})}, true)
	same(t, api.Rule{Key: slices.Repeat(row(a), 99)}, api.Rule{Key: slices.Repeat(row(a), 99)}, true)
	same(t, api.Rule{Key: slices.Repeat(row(a), 99)}, api.Rule{Key: slices.Repeat(row(a), 98)}, false)
	same(t, api.Rule{Ante: row(every(0, 2000))}, api.Rule{Ante: row(every(0, 2000))}, true)
	same(t, api.Rule{Ante: row(every(0, 2000))}, api.Rule{Ante: row(every(0, 1999))}, false)
	same(t, api.Rule{Ante: row(nil)}, api.Rule{}, false)
	same(t, api.Rule{Ante: row(nil)}, api.Rule{Ante: row(nil, nil)}, false)
}
