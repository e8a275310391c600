package names_test

import (
	"fmt"
	"math"
	"slices"
	"testing"

	"respell/api"
	"respell/names"
	"respell/parse"
)

func define(n string, i ...api.Item) api.Line {
	return api.Line{Kind: api.LnName, Name: n, Key: i}
}

func rule(key []api.Item, result ...api.Item) api.Line {
	return api.Line{Kind: api.LnRule, Key: key, Result: result, Cursor: len(result)}
}

func then() api.Line { return api.Line{Kind: api.LnThen} }

func written(t *testing.T, s string) []api.Line {
	t.Helper()
	l, f := parse.Parse(s)
	if f != (api.Fault{}) {
		t.Fatal(s, f)
	}
	return l
}

// pass writes a pass, keys writes a row of sets.
func pass(l ...api.Rule) api.Pass       { return api.Pass{Rules: l} }
func keys(l ...api.Set) []api.Set       { return l }
func one(u int) api.Piece               { return api.Piece{Kind: api.PUnit, Unit: u} }
func again(n int) api.Piece             { return api.Piece{Kind: api.PCopy, Key: n} }
func paired(n int, s api.Set) api.Piece { return api.Piece{Kind: api.PPair, Key: n, To: s} }

func makes(t *testing.T, l []api.Line, want ...api.Pass) {
	t.Helper()
	got, line, e := names.Passes(l)
	if fmt.Sprint(got) != fmt.Sprint(want) || line != 0 || e != api.OK {
		t.Errorf("%v: %v, %d, %d; want %v", l, got, line, e, want)
	}
}

func refuses(t *testing.T, line int, code api.Errno, l ...api.Line) {
	t.Helper()
	if got, n, e := names.Passes(l); len(got) != 0 || n != line || e != code {
		t.Errorf("%v: %v, %d, %d; want %d, %d", l, got, n, e, line, code)
	}
}

func TestExamples(t *testing.T) { // P6.1, P6.2
	makes(t, written(t, ""), pass())
	makes(t, written(t, "then ;"), pass(), pass())
	vowels := of('a', 'a', 'e', 'e', 'i', 'i', 'o', 'o', 'u', 'u')
	greats := of('A', 'A', 'E', 'E', 'I', 'I', 'O', 'O', 'U', 'U')
	makes(t, written(t, "$v = [aeiou] ; x > y ; then ; $v > @1:[AEIOU] ;"),
		pass(api.Rule{Key: keys(of('x', 'x')), Result: []api.Piece{one('y')}, Cursor: 1}),
		pass(api.Rule{Key: keys(vowels), Result: []api.Piece{paired(0, greats)}, Cursor: 1}))
	refuses(t, 0, api.ErrNamesNone, written(t, "[^[:digit:]$q] > ;")...)
	refuses(t, 1, api.ErrNamesTwice, written(t, "$a = . ; $a = b ;")...)
	refuses(t, 0, api.ErrClassName, written(t, "[:none:] > x ;")...)
	noSet(t, upTo('a', 'b'), api.ErrNamesKind)
	noSet(t, unit(55296), api.ErrNamesKind)
	setIs(t, written(t, "$a = [] ;")[0].Key[0], none)
	setIs(t, written(t, "$a = [^] ;")[0].Key[0], runes)
	setIs(t, written(t, `$a = [\b{80}-\b{82}z] ;`)[0].Key[0], of(0x7A, 0x7A, 0x110080, 0x110082))
	setIs(t, written(t, `$a = [\x{D7FF}-\x{E000}] ;`)[0].Key[0], of(0xD7FF, 0xD7FF, 0xE000, 0xE000))
}

func TestPassesOfThens(t *testing.T) { // P6.2
	makes(t, nil, pass())
	makes(t, []api.Line{}, pass())
	for n := range 20 {
		makes(t, slices.Repeat([]api.Line{then()}, n), make([]api.Pass, n+1)...)
	}
	// Of a then nothing is looked at, of a definition only its Name and its Key.
	bad := row(unit(-1), name("none"), copied(0))
	full := api.Line{Kind: api.LnThen, At: -1, Name: "a", Begin: true, End: true, Ante: bad, Key: bad, Post: bad, Result: bad, Cursor: -9}
	makes(t, []api.Line{define("a", unit('a')), full, full}, pass(), pass(), pass())
	full.Kind, full.Name, full.Key = api.LnName, "b", row(unit('b'))
	x := api.Rule{Key: keys(of('b', 'b')), Cursor: 0}
	makes(t, []api.Line{define("a", unit('a')), full, rule(row(name("b")))}, pass(x))
}

func TestRulesStandInTheirPass(t *testing.T) { // P6.2
	r := func(u int) api.Rule { return api.Rule{Key: keys(of(u, u)), Result: []api.Piece{one(u + 1)}, Cursor: 1} }
	makes(t, written(t, "a > b ; c > d ; then ; then ; e > f ; g > h ; i > j ; then ;"), pass(r('a'), r('c')), pass(), pass(r('e'), r('g'), r('i')), pass())
	makes(t, written(t, "then ; a > b ; $v = x ; c > d ;"), pass(), pass(r('a'), r('c')))
	makes(t, written(t, "c > d ; a > b ; c > d ;"), pass(r('c'), r('a'), r('c')))
	makes(t, written(t, "> ;"), pass(api.Rule{}))
	var many []api.Line
	var want []api.Rule
	for i := range 1000 {
		many = append(many, rule(row(unit(i)), unit(i+1)))
		want = append(want, r(i))
	}
	makes(t, many, pass(want...))
}

func TestARuleWhole(t *testing.T) { // P6.2
	makes(t, written(t, "$v = [ae] ; ^ x { $v . } [^a] [:digit:] $ > @1:[AE] | b @2 @3:$v ;"), pass(api.Rule{
		Begin: true, Ante: keys(of('x', 'x')), Key: keys(of('a', 'a', 'e', 'e'), all), Post: keys(of(0, 'a'-1, 'b', 0xD7FF, 0xE000, maxRune), of('0', '9')), End: true,
		Result: []api.Piece{paired(0, of('A', 'A', 'E', 'E')), one('b'), again(1), paired(2, of('a', 'a', 'e', 'e'))}, Cursor: 1,
	}))
	// Whether a rule may be is not asked here: neither its cursor, nor its places, nor how long its rows are.
	for _, cursor := range []int{math.MinInt, -1, 0, 1, 2, 3, 99, math.MaxInt} {
		for _, begin := range []bool{false, true} {
			for _, end := range []bool{false, true} {
				l := api.Line{Kind: api.LnRule, At: 7, Name: "v", Begin: begin, End: end, Result: row(unit('a'), copied(9)), Cursor: cursor}
				makes(t, []api.Line{l}, pass(api.Rule{Begin: begin, End: end, Result: []api.Piece{one('a'), again(8)}, Cursor: cursor}))
			}
		}
	}
	l, want := rule(nil), api.Rule{}
	for i := range 600 {
		l.Ante, want.Ante = append(l.Ante, unit(i)), append(want.Ante, of(i, i))
		l.Key, want.Key = append(l.Key, unit(i+1)), append(want.Key, of(i+1, i+1))
		l.Post, want.Post = append(l.Post, unit(i+2)), append(want.Post, of(i+2, i+2))
		l.Result, want.Result = append(l.Result, unit(i+3)), append(want.Result, one(i+3))
	}
	makes(t, []api.Line{l}, pass(want))
}

func TestPieces(t *testing.T) { // P6.2
	for _, x := range []struct {
		item api.Item
		want api.Piece
	}{
		{copied(1), again(0)}, {copied(2), again(1)}, {copied(math.MaxInt), again(math.MaxInt - 1)},
		{pair(1, unit('a')), paired(0, of('a', 'a'))}, {pair(5, set()), paired(4, none)}, {pair(math.MaxInt, anyUnit()), paired(math.MaxInt-1, all)}, {pair(1, not()), paired(0, runes)},
		{pair(1, name("v")), paired(0, of('a', 'c'))}, {pair(2, classOf("digit")), paired(1, of('0', '9'))}, {pair(3, set(name("v"), unit('x'))), paired(2, of('a', 'c', 'x', 'x'))},
	} {
		l := []api.Line{define("v", set(upTo('a', 'c'))), rule(nil, x.item)}
		makes(t, l, pass(api.Rule{Result: []api.Piece{x.want}, Cursor: 1}))
		// Fields that are not looked at are not told either.
		l[1].Result[0].Unit, l[1].Result[0].Name, l[1].Result[0].Lo, l[1].Result[0].Hi, l[1].Result[0].Not = -1, "none", 2, 1, true
		if x.item.Kind == api.ItCopy {
			l[1].Result[0].Parts = row(unit(-1), unit(-2))
		}
		makes(t, l, pass(api.Rule{Result: []api.Piece{x.want}, Cursor: 1}))
	}
	for _, u := range goodUnits {
		i := unit(u)
		i.Name, i.Parts, i.Lo, i.Hi, i.Not, i.Key = "none", row(unit(-1)), 2, 1, true, -1
		makes(t, []api.Line{rule(nil, unit(u), i)}, pass(api.Rule{Result: []api.Piece{one(u), one(u)}, Cursor: 2}))
	}
}

func TestWhatIsNoPiece(t *testing.T) { // P6.2
	bad := []api.Item{
		copied(0), copied(-1), copied(math.MinInt), pair(0, anyUnit()), pair(-1, anyUnit()), pair(math.MinInt, anyUnit()), pair(1), pair(1, unit('a'), unit('b')), pair(1, unit('a'), unit('a'), unit('a')),
		pair(0), pair(0, name("none")), pair(1, name("none"), name("none")), // ahead of what its part has
		pair(1, copied(1)), pair(1, pair(1, unit('a'))), pair(1, upTo('a', 'b')), pair(1, unit(-1)), pair(1, api.Item{}), pair(1, set(set())), pair(1, set(upTo('b', 'a'))),
		name("v"), classOf("digit"), anyUnit(), set(), set(unit('a')), upTo('a', 'b'), {}, {Kind: 9, Unit: 'a', Key: 1}, {Kind: -1, Key: 1}, {Kind: math.MaxInt}, {Kind: math.MinInt},
	}
	for _, u := range noUnits {
		bad = append(bad, unit(u))
	}
	v := define("v", unit('v'))
	for _, i := range bad {
		refuses(t, 1, api.ErrNamesKind, v, rule(nil, i))
		refuses(t, 2, api.ErrNamesKind, v, then(), rule(row(unit('a')), copied(1), unit('b'), i, pair(1, name("none"))))
	}
	refuses(t, 0, api.ErrNamesNone, rule(nil, pair(1, name("none"))))
	refuses(t, 0, api.ErrClassName, rule(nil, pair(1, classOf("none"))))
	refuses(t, 0, api.ErrSetMany, rule(nil, pair(1, set(units(every(0, 513))...))))
	refuses(t, 0, api.ErrNamesNone, rule(nil, pair(1, set(name("v")))), v)
}

func TestNames(t *testing.T) { // P6.2
	key := func(l ...api.Set) api.Rule { return api.Rule{Key: l} }
	v := of('a', 'c')
	makes(t, written(t, "$v = [a-c] ; $v > ; then ; $v $v > ; then ; then ; [$v x] > ;"), pass(key(v)), pass(key(v, v)), pass(), pass(key(of('a', 'c', 'x', 'x'))))
	makes(t, written(t, "$v = [a-c] ; $w = $v ; $x = [$w x] ; $y = [^ $x] ; $y > ;"), pass(key(of(0, 'a'-1, 'd', 'w', 'y', 0xD7FF, 0xE000, maxRune))))
	makes(t, []api.Line{define("", unit('e')), define("a b\x00", set()), rule(row(name(""), name("a b\x00")))}, pass(key(of('e', 'e'), none)))
	makes(t, written(t, "$digit = x ; $digit [:digit:] > ;"), pass(key(of('x', 'x'), of('0', '9'))))
	makes(t, written(t, "$v = . ; $w = [:stray:] ; $V = a ; $v $w $V > ;"), pass(key(all, strays, of('a', 'a'))))

	refuses(t, 0, api.ErrNamesNone, written(t, "$v > ; $v = a ;")...)
	refuses(t, 1, api.ErrNamesNone, written(t, "a > b ; [$v] > ; $v = a ;")...)
	refuses(t, 0, api.ErrNamesNone, written(t, "$v = $v ;")...)
	refuses(t, 0, api.ErrNamesNone, written(t, "$v = [a$v] ;")...)
	refuses(t, 0, api.ErrNamesNone, written(t, "$v = $w ; $w = a ;")...)
	refuses(t, 3, api.ErrNamesNone, written(t, "$v = a ; $v > ; then ; $V > ;")...)
	refuses(t, 1, api.ErrNamesTwice, written(t, "$v = a ; $v = a ;")...)
	refuses(t, 3, api.ErrNamesTwice, written(t, "$v = a ; then ; then ; $v = b ;")...)
	refuses(t, 2, api.ErrNamesTwice, written(t, "$v = a ; $w = b ; $v = $w ;")...)
	refuses(t, 1, api.ErrNamesTwice, define("", set()), define("", unit('a')))
}

func TestTheErrorsOfADefinition(t *testing.T) { // P6.2
	a := define("a", unit('a'))
	for _, l := range []api.Line{define("a", unit('a')), define("a"), define("a", unit('a'), unit('b')), define("a", unit(-1)), define("a", name("none")), define("a", name("a"))} {
		refuses(t, 1, api.ErrNamesTwice, a, l)
		refuses(t, 2, api.ErrNamesTwice, a, then(), l, define("b"))
	}
	for _, l := range []api.Line{define("b"), define("b", unit('a'), unit('b')), define("b", name("none"), name("none")), define("b", row(anyUnit(), anyUnit(), anyUnit())...)} {
		refuses(t, 1, api.ErrNamesKind, a, l)
	}
	for _, x := range []struct {
		item api.Item
		code api.Errno
	}{
		{unit(-1), api.ErrNamesKind}, {upTo('a', 'b'), api.ErrNamesKind}, {copied(1), api.ErrNamesKind}, {pair(1, unit('a')), api.ErrNamesKind}, {api.Item{}, api.ErrNamesKind},
		{name("b"), api.ErrNamesNone}, {classOf("none"), api.ErrClassName}, {set(units(every(0, 513))...), api.ErrSetMany}, {not(units(every(1, 512))...), api.ErrSetMany}, {set(name("none"), classOf("none")), api.ErrNamesNone},
	} {
		refuses(t, 1, x.code, a, define("b", x.item))
		refuses(t, 0, x.code, define("b", x.item), define("b", unit('a')))
	}
}

func TestTheErrorsOfARule(t *testing.T) { // P6.2
	// Each row has an error of its own; those ahead of it are right, those behind it wrong.
	none, class, many, kind := row(unit('a'), name("none")), row(unit('a'), classOf("none")), row(unit('a'), set(units(every(0, 513))...)), row(unit('a'), unit(-1))
	good := row(unit('a'))
	bad := []struct {
		row  []api.Item
		code api.Errno
	}{{none, api.ErrNamesNone}, {class, api.ErrClassName}, {many, api.ErrSetMany}, {kind, api.ErrNamesKind}}
	for i, x := range bad {
		other := bad[(i+1)%len(bad)].row
		result := row(pair(1, other[1]))
		l := api.Line{Kind: api.LnRule, Ante: x.row, Key: other, Post: other, Result: result}
		refuses(t, 1, x.code, define("v", unit('v')), l)
		l.Ante, l.Key = good, x.row
		refuses(t, 0, x.code, l)
		l.Key, l.Post = good, x.row
		refuses(t, 0, x.code, l)
		l.Post, l.Result = good, row(unit('a'), pair(1, x.row[1]), result[0])
		refuses(t, 0, x.code, l)
		l.Result = good
		if _, _, e := names.Passes([]api.Line{l}); e != api.OK {
			t.Errorf("%v: %d", l, e)
		}
		// In one row the first item that has one.
		l.Post = row(x.row[1], other[1])
		refuses(t, 0, x.code, l)
	}
}

func TestTheFirstLineThatIsWrong(t *testing.T) { // P6.2, R2
	bad := []struct {
		line api.Line
		code api.Errno
	}{
		{define("g", unit('g')), api.ErrNamesTwice}, {define("h"), api.ErrNamesKind}, {rule(row(name("none"))), api.ErrNamesNone}, {rule(row(classOf("none"))), api.ErrClassName}, {rule(nil, copied(0)), api.ErrNamesKind}, {api.Line{Kind: 9}, api.ErrNamesKind},
	}
	good := []api.Line{define("g", unit('g')), rule(row(name("g"))), then(), rule(row(anyUnit()), copied(1)), then()}
	for _, a := range bad {
		for _, b := range bad {
			for n := 1; n <= len(good); n++ {
				refuses(t, n, a.code, slices.Concat(good[:n], []api.Line{a.line}, good[n:], []api.Line{b.line})...)
			}
		}
	}
	for _, kind := range []int{0, -1, 4, 5, 9, 256 + 1, 1<<32 + 1, math.MinInt, math.MaxInt} {
		refuses(t, 0, api.ErrNamesKind, api.Line{Kind: kind})
		refuses(t, 2, api.ErrNamesKind, then(), then(), api.Line{Kind: kind, Name: "v", Key: row(unit('a'))})
	}
}
