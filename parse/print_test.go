package parse_test

import (
	"fmt"
	"math"
	"strings"
	"testing"

	"respell/api"
	"respell/parse"
)

// short is the beginning of lines as they are told.
func short(l []api.Line) string { return fmt.Sprintf("%.300s", fmt.Sprint(l)) }

func prints(t *testing.T, want string, l ...api.Line) {
	t.Helper()
	if s, err := parse.Print(l); s != want || err != api.OK {
		t.Errorf("%s: %.200q, %d; want %.200q", short(l), s, err, want)
	}
}

func unprinted(t *testing.T, code api.Errno, l ...api.Line) {
	t.Helper()
	if s, err := parse.Print(l); s != "" || err != code {
		t.Errorf("%s: %.200q, %d; want %d", short(l), s, err, code)
	}
}

// badLine wants a line to be refused, alone, ahead of a worse one, and behind good ones.
func badLine(t *testing.T, code api.Errno, l api.Line) {
	t.Helper()
	unprinted(t, code, l)
	unprinted(t, code, then(), define("v", anyUnit()), l)
	unprinted(t, code, l, api.Line{})
	unprinted(t, code, l, rule(manyOf(513, unit('a')), nil))
	unprinted(t, code, l, rule(row(set(upTo('b', 'a'))), nil))
}

func manyOf(n int, it api.Item) []api.Item {
	var l []api.Item
	for range n {
		l = append(l, it)
	}
	return l
}

func TestPrintExamples(t *testing.T) { // P5.2
	prints(t, "^ x [^a-c $v] { a b } . $ > @1:[x-z] | c ;\n", exampleLine())
	badLine(t, api.ErrParseWant, api.Line{Kind: api.LnThen, Name: "v"})
	badLine(t, api.ErrParseRange, rule(row(set(upTo('b', 'a'))), nil))
}

func TestPrintedLines(t *testing.T) { // P5.2
	prints(t, "")
	prints(t, "then ;\n", then())
	prints(t, "$v = a ;\n", define("v", unit('a')))
	prints(t, "> ;\n", rule(nil, nil))
	prints(t, "a > b ;\n", rule(units("a"), units("b")))
	prints(t, "t h e n > t h e n ;\n", rule(units("then"), units("then")))
	prints(t, "$Az_09 = [^] ;\nthen ;\nthen ;\na > ;\n> b ;\n", define("Az_09", notSet()), then(), then(), rule(units("a"), nil), rule(nil, units("b")))
	long := strings.Repeat("_", 32)
	prints(t, "$"+long+" = [:"+long+":] ;\n", define(long, class(long)))
}

func TestPrintLooksAtNoPlace(t *testing.T) { // P5.2
	for _, place := range []int{-1, 1, 7, 32768, math.MaxInt, math.MinInt} {
		prints(t, "then ;\n$v = . ;\n> a ;\n", at(place, then()), at(place, define("v", anyUnit())), at(place, rule(nil, units("a"))))
	}
}

func TestPrintedItems(t *testing.T) { // P5.2
	all := map[string]api.Item{
		"a": unit('a'), "~": unit('~'), "5": unit('5'), `\ `: unit(' '), `\x{E9}`: unit(0xE9), `\x{0}`: unit(0), `\x{A}`: unit('\n'), `\x{7F}`: unit(0x7F), `\x{10FFFF}`: unit(0x10FFFF), `\b{80}`: unit(0x110080), `\b{FF}`: unit(0x1100FF), `\>`: unit('>'), `\#`: unit('#'), `\,`: unit(','), `\@`: unit('@'), `\\`: unit('\\'), `\[`: unit('['),
		"$v": name("v"), "[:v:]": class("v"), ".": anyUnit(), "[]": set(), "[^]": notSet(), "[a]": set(unit('a')), `[\^]`: set(unit('^')), `[\:]`: set(unit(':')), `[^\^]`: notSet(unit('^')), "[[:x:]]": set(class("x")), "[^[:x:]]": notSet(class("x")), "[$v]": set(name("v")), "[a-b]": set(upTo('a', 'b')), `[\--\-]`: set(upTo('-', '-')),
		`[^a b-c $v [:x:] \b{80}-\b{FF} \x{0}-\x{10FFFF}]`: notSet(unit('a'), upTo('b', 'c'), name("v"), class("x"), upTo(0x110080, 0x1100FF), upTo(0, 0x10FFFF)),
	}
	for s, it := range all {
		prints(t, "$v = "+s+" ;\n", define("v", it))
		for _, r := range [][]api.Item{row(it), row(it, it), row(unit('x'), it, unit('y'))} {
			text := s
			if len(r) == 2 {
				text = s + " " + s
			} else if len(r) == 3 {
				text = "x " + s + " y"
			}
			prints(t, text+" { > ;\n", api.Line{Kind: 2, Ante: r})
			prints(t, text+" > ;\n", api.Line{Kind: 2, Key: r})
			prints(t, "} "+text+" > ;\n", api.Line{Kind: 2, Post: r})
		}
		if it.Kind == api.ItUnit {
			prints(t, "> "+s+" | "+s+" ;\n", api.Line{Kind: 2, Result: row(it, it), Cursor: 1})
			continue
		}
		prints(t, "> @1:"+s+" @999999999:"+s+" ;\n", rule(nil, row(pair(1, it), pair(999999999, it))))
	}
	prints(t, "> @1 a @2 @999999999 ;\n", rule(nil, row(copied(1), unit('a'), copied(2), copied(999999999))))
}

func TestPrintedSigns(t *testing.T) { // P5.2
	a, b, c := units("a"), units("b"), units("c")
	for want, l := range map[string]api.Line{
		"b > ;":              {Key: b},
		"^ { b > ;":          {Begin: true, Key: b},
		"a { b > ;":          {Ante: a, Key: b},
		"^ a { b > ;":        {Begin: true, Ante: a, Key: b},
		"^ { > ;":            {Begin: true},
		"b } $ > ;":          {Key: b, End: true},
		"b } c > ;":          {Key: b, Post: c},
		"b } c $ > ;":        {Key: b, Post: c, End: true},
		"} $ > ;":            {End: true},
		"^ { } $ > ;":        {Begin: true, End: true},
		"^ a { b } c $ > ;":  {Begin: true, Ante: a, Key: b, Post: c, End: true},
		"a { } c > ;":        {Ante: a, Post: c},
		"> | a ;":            {Result: a},
		"> a ;":              {Result: a, Cursor: 1},
		"> | a b c ;":        {Result: units("abc")},
		"> a | b c ;":        {Result: units("abc"), Cursor: 1},
		"> a b | c ;":        {Result: units("abc"), Cursor: 2},
		"> a b c ;":          {Result: units("abc"), Cursor: 3},
		"> @2:$v | @1 \\; ;": {Result: row(pair(2, name("v")), copied(1), unit(';')), Cursor: 1},
	} {
		l.Kind = api.LnRule
		prints(t, want+"\n", l)
		prints(t, "then ;\n"+want+"\n"+want+"\n", then(), l, l)
	}
}

// lineFields set a field of a line each, to what is not zero.
var lineFields = map[string]func(*api.Line){
	"Name":   func(l *api.Line) { l.Name = "w" },
	"Begin":  func(l *api.Line) { l.Begin = true },
	"End":    func(l *api.Line) { l.End = true },
	"Ante":   func(l *api.Line) { l.Ante = units("a") },
	"Key":    func(l *api.Line) { l.Key = units("a") },
	"Post":   func(l *api.Line) { l.Post = units("a") },
	"Result": func(l *api.Line) { l.Result = units("a") },
	"Cursor": func(l *api.Line) { l.Cursor = 1 },
	"under":  func(l *api.Line) { l.Cursor = -1 },
}

func TestFieldsThatALineHasNot(t *testing.T) { // P5.2
	for which, set := range lineFields {
		l := then()
		set(&l)
		badLine(t, api.ErrParseWant, l)
		if which != "Name" && which != "Key" {
			l = define("v", unit('a'))
			set(&l)
			badLine(t, api.ErrParseWant, l)
		}
	}
	badLine(t, api.ErrParseWant, api.Line{Kind: 2, Name: "v"})
	badLine(t, api.ErrParseWant, api.Line{Kind: 2, Name: "v", Key: units("a"), Result: units("b"), Cursor: 1})
	none := []api.Item{}
	prints(t, "then ;\n$v = a ;\n", api.Line{Kind: 3, Ante: none, Key: none, Post: none, Result: none}, api.Line{Kind: 1, Name: "v", Ante: none, Key: units("a"), Post: none, Result: none})
}

func TestLinesThatAreNone(t *testing.T) { // P5.2
	for _, kind := range []int{0, 4, -1, -2, 5, 8, 256 + 2, math.MaxInt, math.MinInt} {
		for _, l := range []api.Line{{}, define("v", unit('a')), rule(units("a"), units("b"))} {
			l.Kind = kind
			badLine(t, api.ErrParseWant, l)
		}
	}
}

// badNames are no names.
var badNames = []string{"", strings.Repeat("n", 33), strings.Repeat("n", 1000), "a b", "a-b", "$v", "v$", "é", "v\x00", "v\n", "v;", ":v:", "\xFF", "vé", "/", ":", "@", "[", "`", "{", "^", " "}

func TestDefinitionsThatAreNone(t *testing.T) { // P5.2
	for _, s := range badNames {
		badLine(t, api.ErrParseWant, define(s, unit('a')))
	}
	for _, n := range []int{0, 2, 3, 512, 513, 1000} {
		badLine(t, api.ErrParseWant, api.Line{Kind: 1, Name: "v", Key: manyOf(n, unit('a'))})
	}
	for _, s := range []string{"a", "z", "A", "Z", "0", "9", "_", "then", "a0_Z", strings.Repeat("Z", 32)} {
		prints(t, "$"+s+" = $"+s+" ;\n$v = [:"+s+":] ;\n", define(s, name(s)), define("v", class(s)))
	}
}

func TestCursorsThatAreNone(t *testing.T) { // P5.2
	for n := range 4 {
		for _, c := range []int{-1, n + 1, n + 2, math.MaxInt, math.MinInt} {
			badLine(t, api.ErrParseWant, api.Line{Kind: 2, Key: units("a"), Result: units("abcd"[:n]), Cursor: c})
		}
	}
}

// inEveryRow hands on lines that have an item in one of their rows, behind others; in the rows ahead of a result, or in that.
func inEveryRow(it api.Item, result bool, each func(api.Line)) {
	for n := range 3 {
		r := append(manyOf(n, unit('x')), it, unit('y'))
		if result {
			each(rule(units("a"), r))
			continue
		}
		each(api.Line{Kind: 2, Ante: r})
		each(api.Line{Kind: 2, Begin: true, Ante: r})
		each(api.Line{Kind: 2, Key: r})
		each(api.Line{Kind: 2, Post: r})
		each(api.Line{Kind: 2, Post: r, End: true})
	}
	if !result {
		each(define("v", it))
	}
}

// badItem wants an item to be refused wherever one stands: in rows, pieces, sets, pairs.
func badItem(t *testing.T, code api.Errno, it api.Item) {
	t.Helper()
	bad := func(l api.Line) { badLine(t, code, l) }
	inEveryRow(it, false, bad)
	inEveryRow(it, true, bad)
	inEveryRow(set(it), false, bad)
	inEveryRow(notSet(unit('a'), it, unit('b')), false, bad)
	inEveryRow(pair(1, it), true, bad)
	inEveryRow(pair(1, set(upTo('a', 'b'), it)), true, bad)
}

func TestKindsThatAreNone(t *testing.T) { // P5.2
	for _, kind := range []int{0, 9, -1, -5, 10, 63, 64, 65, 69, 128, 256 + 1, 1 << 32, math.MaxInt, math.MinInt} {
		badItem(t, api.ErrParseWant, api.Item{Kind: kind})
		badItem(t, api.ErrParseWant, api.Item{Kind: kind, Unit: 'a'})
	}
}

func TestItemsWhereTheyMayNotStand(t *testing.T) { // P5.2
	bad := func(l api.Line) { badLine(t, api.ErrParseWant, l) }
	for _, it := range []api.Item{upTo('a', 'b'), upTo('b', 'a'), copied(1), pair(1, anyUnit())} {
		inEveryRow(it, false, bad)
		inEveryRow(pair(1, it), true, bad)
	}
	for _, it := range []api.Item{name("v"), class("v"), anyUnit(), set(), notSet(unit('a')), upTo('a', 'b'), upTo('b', 'a'), set(manyOf(513, unit('a'))...)} {
		inEveryRow(it, true, bad)
	}
	for _, it := range []api.Item{anyUnit(), set(), set(unit('a')), copied(1), pair(1, anyUnit()), set(manyOf(513, unit('a'))...)} {
		inEveryRow(set(it), false, bad)
		inEveryRow(pair(1, notSet(unit('a'), it)), true, bad)
	}
	inEveryRow(pair(1, unit('a')), true, bad)
}

// itemFields set a field of an item each, to what is not zero.
var itemFields = map[string]func(*api.Item){
	"Unit":  func(it *api.Item) { it.Unit = 'a' },
	"under": func(it *api.Item) { it.Unit = -1 },
	"Name":  func(it *api.Item) { it.Name = "v" },
	"Parts": func(it *api.Item) { it.Parts = row(anyUnit()) },
	"Lo":    func(it *api.Item) { it.Lo = 1 },
	"Hi":    func(it *api.Item) { it.Hi = 1 },
	"Not":   func(it *api.Item) { it.Not = true },
	"Key":   func(it *api.Item) { it.Key = 1 },
}

func TestFieldsThatAnItemHasNot(t *testing.T) { // P5.2
	for _, k := range []struct {
		it  api.Item
		has string
	}{
		{unit('x'), "Unit under"}, {name("w"), "Name"}, {class("w"), "Name"}, {anyUnit(), ""}, {set(), "Not Parts"}, {upTo(0, 'z'), "Lo Hi"}, {copied(2), "Key"}, {pair(2, anyUnit()), "Key Parts"},
	} {
		for which, set := range itemFields {
			if !strings.Contains(" "+k.has+" ", " "+which+" ") {
				it := k.it
				set(&it)
				badItem(t, api.ErrParseWant, it)
			}
		}
		// An empty list is none.
		k.it.Parts = append([]api.Item{}, k.it.Parts...)
		if k.it.Kind < api.ItRange {
			if _, err := parse.Print([]api.Line{define("v", k.it)}); err != api.OK {
				t.Errorf("%v, with an empty list: %d", k.it, err)
			}
		}
	}
}

func TestValuesThatAreNone(t *testing.T) { // P5.2
	for _, u := range []int{-1, 0xD800, 0xDBFF, 0xDFFF, 0x110000, 0x11007F, 0x110100, 1 << 32, math.MaxInt, math.MinInt} {
		badItem(t, api.ErrParseWant, unit(u))
		badItem(t, api.ErrParseWant, upTo(u, 'z'))
		badItem(t, api.ErrParseWant, upTo('a', u))
		badItem(t, api.ErrParseWant, upTo(u, u))
		badItem(t, api.ErrParseWant, upTo(u, 0x110080))
	}
	for _, s := range badNames {
		badItem(t, api.ErrParseWant, name(s))
		badItem(t, api.ErrParseWant, class(s))
	}
	for _, n := range []int{0, -1, 1000000000, math.MaxInt, math.MinInt} {
		badItem(t, api.ErrParseWant, copied(n))
		badItem(t, api.ErrParseWant, pair(n, anyUnit()))
	}
	for _, n := range []int{0, 2, 3, 512, 513} {
		badItem(t, api.ErrParseWant, api.Item{Kind: api.ItPair, Key: 1, Parts: manyOf(n, anyUnit())})
		badItem(t, api.ErrParseWant, api.Item{Kind: api.ItPair, Key: 1, Parts: manyOf(n, unit('a'))})
	}
}

func TestRangesThatAreNone(t *testing.T) { // P5.2
	for _, it := range []api.Item{upTo('b', 'a'), upTo(1, 0), upTo(0x10FFFF, 0), upTo(0x110081, 0x110080), upTo(0x1100FF, 0x110080), upTo('a', 0x110080), upTo(0x110080, 'a'), upTo(0x10FFFF, 0x110080), upTo(0, 0x1100FF), upTo(0x1100FF, 0)} {
		bad := func(l api.Line) { badLine(t, api.ErrParseRange, l) }
		inEveryRow(set(it), false, bad)
		inEveryRow(notSet(unit('a'), upTo('a', 'a'), it, upTo('c', 'b')), false, bad)
		inEveryRow(pair(1, set(unit('a'), it)), true, bad)
	}
}

func TestPrintedMany(t *testing.T) { // P5.2
	full, over := manyOf(512, unit('a')), manyOf(513, unit('a'))
	worst := manyOf(513, api.Item{})
	text := strings.TrimSpace(strings.Repeat("a ", 512))
	prints(t, text+" { "+text+" } "+text+" > "+text+" ;\n", api.Line{Kind: 2, Ante: full, Key: full, Post: full, Result: full, Cursor: 512})
	prints(t, "["+text+"] > | @1:[^"+text+"] ;\n", api.Line{Kind: 2, Key: row(set(full...)), Result: row(pair(1, notSet(full...)))})
	for _, l := range [][]api.Item{over, worst} {
		badLine(t, api.ErrParseMany, api.Line{Kind: 2, Ante: l})
		badLine(t, api.ErrParseMany, api.Line{Kind: 2, Key: l})
		badLine(t, api.ErrParseMany, api.Line{Kind: 2, Post: l})
		badLine(t, api.ErrParseMany, api.Line{Kind: 2, Result: l})
		badLine(t, api.ErrParseMany, api.Line{Kind: 2, Result: l, Cursor: 513})
		bad := func(l api.Line) { badLine(t, api.ErrParseMany, l) }
		inEveryRow(set(l...), false, bad)
		inEveryRow(pair(1, notSet(l...)), true, bad)
	}
}

func TestWhichErrorIsFirst(t *testing.T) { // P5.2
	many, wrong, turned := manyOf(513, api.Item{}), row(unit(-1)), row(set(upTo('b', 'a')))
	turnedPiece := row(pair(1, turned[0]))
	// The line's own fields are ahead of all rows; the rows follow as they are named; the items, as they stand.
	badLine(t, api.ErrParseWant, api.Line{Kind: 2, Ante: many, Cursor: 1})
	badLine(t, api.ErrParseWant, api.Line{Kind: 2, Name: "v", Key: turned})
	badLine(t, api.ErrParseWant, api.Line{Kind: 1, Name: "", Key: turned})
	badLine(t, api.ErrParseWant, api.Line{Kind: 1, Name: "v", Key: many})
	badLine(t, api.ErrParseWant, api.Line{Kind: 1, Name: "v", Key: append(turned, unit('a'))})
	badLine(t, api.ErrParseWant, api.Line{Kind: 3, Key: turned})
	badLine(t, api.ErrParseWant, api.Line{Kind: 0, Key: turned})
	kinds := map[api.Errno][]api.Item{api.ErrParseMany: many, api.ErrParseWant: wrong, api.ErrParseRange: turned}
	for code, one := range kinds {
		for other, two := range kinds {
			badLine(t, code, api.Line{Kind: 2, Ante: one, Key: two})
			badLine(t, code, api.Line{Kind: 2, Ante: one, Post: two})
			badLine(t, code, api.Line{Kind: 2, Key: one, Post: two})
			result := two
			if other == api.ErrParseRange {
				result = turnedPiece
			}
			badLine(t, code, api.Line{Kind: 2, Ante: one, Result: result})
			badLine(t, code, api.Line{Kind: 2, Key: one, Result: result})
			badLine(t, code, api.Line{Kind: 2, Post: one, Result: result})
			unprinted(t, code, api.Line{Kind: 2, Key: one}, api.Line{Kind: 2, Ante: two})
			if code != api.ErrParseMany {
				badLine(t, code, api.Line{Kind: 2, Key: append(append(row(unit('a')), one...), two...)[:3]})
			}
		}
	}
	// A set's own fields are ahead of how many parts it has, that is ahead of the parts.
	badLine(t, api.ErrParseWant, rule(row(api.Item{Kind: 5, Parts: many, Key: 1}), nil))
	badLine(t, api.ErrParseMany, rule(row(api.Item{Kind: 5, Parts: append(row(upTo('b', 'a')), many...)}), nil))
	badLine(t, api.ErrParseRange, rule(row(set(upTo('b', 'a'), unit(-1))), nil))
	badLine(t, api.ErrParseWant, rule(row(set(unit(-1), upTo('b', 'a'))), nil))
	badLine(t, api.ErrParseRange, rule(row(turned[0], set(many...)), nil))
	badLine(t, api.ErrParseMany, rule(row(set(many...), turned[0]), nil))
	badLine(t, api.ErrParseWant, rule(nil, row(pair(0, turned[0]))))
	badLine(t, api.ErrParseWant, rule(row(set(upTo(-1, -2))), nil))
	badLine(t, api.ErrParseWant, rule(row(set(upTo('b', 0xD800))), nil))
	badLine(t, api.ErrParseWant, rule(row(set(api.Item{Kind: 6, Lo: 'b', Hi: 'a', Unit: 1})), nil))
}

// filled are lines that are printed as so many bytes, from 12 on: rules without anything have 4 of them.
func filled(n int) []api.Line {
	var l []api.Line
	for ; n > 15; n -= 4 {
		l = append(l, rule(nil, nil))
	}
	return append(l, define(strings.Repeat("v", n-8), anyUnit()))
}

func TestPrintedLength(t *testing.T) { // P5.2
	for n := 12; n < 20; n++ {
		if s, err := parse.Print(filled(n)); len(s) != n || err != api.OK {
			t.Errorf("%d bytes: %q, %d", n, s, err)
		}
	}
	for n := 32760; n <= 32768; n++ {
		if s, err := parse.Print(filled(n)); len(s) != n || err != api.OK || !strings.HasPrefix(s, "> ;\n> ;\n") || !strings.HasSuffix(s, "v = . ;\n") {
			t.Errorf("%d bytes: %d, %d", n, len(s), err)
		}
	}
	for _, n := range []int{32769, 32770, 32771, 32772, 32773, 40000, 100000} {
		unprinted(t, api.ErrLong, filled(n)...)
	}
	great := set(manyOf(512, upTo(0x10FFFE, 0x10FFFF))...)
	for _, l := range []api.Line{{Kind: 2, Ante: manyOf(512, great)}, {Kind: 2, Key: manyOf(512, great)}, {Kind: 2, Post: manyOf(512, great)}, {Kind: 2, Result: manyOf(512, pair(999999999, great))}} {
		unprinted(t, api.ErrLong, l)
		unprinted(t, api.ErrLong, then(), l, l, l)
	}
}

func TestTooLongIsBehindAllLines(t *testing.T) { // P5.2
	for _, n := range []int{32768, 32769, 100000} {
		long := filled(n)
		unprinted(t, api.ErrParseWant, append(long, api.Line{})...)
		unprinted(t, api.ErrParseMany, append(long, rule(manyOf(513, unit('a')), nil))...)
		unprinted(t, api.ErrParseRange, append(long, rule(row(set(upTo('b', 'a'))), nil))...)
	}
}
