package parse_test

import (
	"reflect"
	"strings"
	"testing"

	"respell/api"
	"respell/parse"
)

func unit(u int) api.Item { return api.Item{Kind: 1, Unit: u} }

func name(s string) api.Item { return api.Item{Kind: 2, Name: s} }

func class(s string) api.Item { return api.Item{Kind: 3, Name: s} }

func anyUnit() api.Item { return api.Item{Kind: 4} }

func set(parts ...api.Item) api.Item { return api.Item{Kind: 5, Parts: parts} }

func notSet(parts ...api.Item) api.Item { return api.Item{Kind: 5, Not: true, Parts: parts} }

func upTo(lo, hi int) api.Item { return api.Item{Kind: 6, Lo: lo, Hi: hi} }

func copied(n int) api.Item { return api.Item{Kind: 7, Key: n} }

func pair(n int, it api.Item) api.Item { return api.Item{Kind: 8, Key: n, Parts: row(it)} }

func row(l ...api.Item) []api.Item { return l }

// units are the runes of a text, an item each.
func units(s string) []api.Item {
	var l []api.Item
	for _, r := range s {
		l = append(l, unit(int(r)))
	}
	return l
}

func define(s string, it api.Item) api.Line { return api.Line{Kind: 1, Name: s, Key: row(it)} }

func then() api.Line { return api.Line{Kind: 3} }

// rule is one of a key and a result alone.
func rule(key, result []api.Item) api.Line {
	return api.Line{Kind: 2, Key: key, Result: result, Cursor: len(result)}
}

func at(place int, l api.Line) api.Line {
	l.At = place
	return l
}

// tidy is a copy of lines that has nil for each empty list.
func tidy(l []api.Line) []api.Line {
	var out []api.Line
	for _, x := range l {
		x.Ante, x.Key, x.Post, x.Result = tidyRow(x.Ante), tidyRow(x.Key), tidyRow(x.Post), tidyRow(x.Result)
		out = append(out, x)
	}
	return out
}

func tidyRow(l []api.Item) []api.Item {
	var out []api.Item
	for _, x := range l {
		x.Parts = tidyRow(x.Parts)
		out = append(out, x)
	}
	return out
}

func same(a, b []api.Line) bool { return reflect.DeepEqual(tidy(a), tidy(b)) }

// placeless are lines without their places.
func placeless(l []api.Line) []api.Line {
	out := tidy(l)
	for i := range out {
		out[i].At = 0
	}
	return out
}

func reads(t *testing.T, s string, want ...api.Line) {
	t.Helper()
	if l, f := parse.Parse(s); f != (api.Fault{}) || !same(l, want) {
		t.Errorf("%.200q: %+v, %v; want %+v", s, l, f, want)
	}
}

// refused wants a fault at a place, whatever good lines stand ahead, and nothing else.
func refused(t *testing.T, s string, place int, code api.Errno) {
	t.Helper()
	for _, ahead := range []string{"", "a > b ;", "$v = [aé] ;\n", "then;\t# on\n", " # ;\n"} {
		want := api.Fault{At: len(ahead) + place, Code: code}
		if l, f := parse.Parse(ahead + s); f != want || len(l) != 0 {
			t.Errorf("%.200q: %d lines, %v; want %v", ahead+s, len(l), f, want)
		}
	}
}

const exampleText = "^ x [^a-c$v] { ab } . $ > @1:[x-z] | c;"

func exampleLine() api.Line {
	return api.Line{
		Kind: 2, Begin: true, End: true,
		Ante:   row(unit('x'), notSet(upTo('a', 'c'), name("v"))),
		Key:    units("ab"),
		Post:   row(anyUnit()),
		Result: row(pair(1, set(upTo('x', 'z'))), unit('c')),
		Cursor: 1,
	}
}

func TestExamples(t *testing.T) { // P5.1
	reads(t, "a > b ;", rule(units("a"), units("b")))
	reads(t, exampleText, exampleLine())
	reads(t, "$v = [aeiou]; then ; > ;", define("v", set(units("aeiou")...)), at(14, then()), at(21, rule(nil, nil)))
	reads(t, "then > x ;", rule(units("then"), units("x")))
	reads(t, "")
	for s, want := range map[string]int{"a > b": 5, "a ;": 2, "^ a > b ;": 4, "a > $v ;": 4, "a > b | c | ;": 10, "[a-] > ;": 3, "then": 4} {
		refused(t, s, want, api.ErrParseWant)
	}
	refused(t, "[c-a] > ;", 1, api.ErrParseRange)
	refused(t, `[\b{80}-\x{100}] > ;`, 1, api.ErrParseRange)
}

func TestTextsWithoutLines(t *testing.T) { // P5.1
	for _, s := range []string{" ", "\n\r\t", "# a > ;", "# , @0 \\\n # [:", strings.Repeat(" ", 32768)} {
		reads(t, s)
	}
}

func TestThen(t *testing.T) { // P5.1
	reads(t, "then;", then())
	reads(t, " then # ;\n ;", at(1, then()))
	reads(t, "then;then ;\tthen\n;", then(), at(5, then()), at(12, then()))
	reads(t, "a>;then;b>;", rule(units("a"), nil), at(3, then()), at(8, rule(units("b"), nil)))
	reads(t, "t h e n > then ;", rule(units("then"), units("then")))
	refused(t, "$v = then ;", 6, api.ErrParseWant)
	refused(t, "t hen ;", 6, api.ErrParseWant)
	refused(t, "then then ;", 10, api.ErrParseWant)
}

func TestDefinitions(t *testing.T) { // P5.1
	for s, it := range sideItems() {
		reads(t, "$v="+s+";", define("v", it))
		reads(t, " $A_9 = "+s+" # on\n ;", at(1, define("A_9", it)))
	}
	long := strings.Repeat("n", 32)
	reads(t, "$"+long+"=.;", define(long, anyUnit()))
	reads(t, "$then = $then ;", define("then", name("then")))
	for s, place := range map[string]int{
		"$v =": 4, "$v = ;": 5, "$v = a": 6, "$v = a b ;": 7, "$v = a $w ;": 7, "$v = @1 ;": 5, "$v = @1:. ;": 5, "$v = ^ ;": 5, "$v = a > ;": 7, "$v = = a ;": 5, "$v = a-b ;": 6, "$v = $w = a ;": 8, "$v = [a] [b] ;": 9,
		"a = b ;": 2, "$v $w = a ;": 6, "[:v:] = a ;": 6, "^ $v = a ;": 5, "$v { $w = a ;": 8, "$v": 2, "$v ;": 3, "= a ;": 0, ". = a ;": 2, "{ $v = a ;": 5, "a > $v = b ;": 4,
	} {
		refused(t, s, place, api.ErrParseWant)
	}
}

// sideItems are items that may stand ahead of a result, as they are written.
func sideItems() map[string]api.Item {
	return map[string]api.Item{
		"a": unit('a'), "é": unit(0xE9), `\x{0}`: unit(0), `\>`: unit('>'), `\b{80}`: unit(0x110080), `\b{FF}`: unit(0x1100FF), "\uFFFD": unit(0xFFFD), `\x{10FFFF}`: unit(0x10FFFF), "5": unit('5'), "!": unit('!'),
		"$v": name("v"), "$_": name("_"), "$9z": name("9z"), "[:alpha:]": class("alpha"), "[:_x0:]": class("_x0"), ".": anyUnit(),
		"[]": set(), "[^]": notSet(), "[ ^ ]": notSet(), "[a]": set(unit('a')), "[a-b]": set(upTo('a', 'b')), "[ a - b ]": set(upTo('a', 'b')), "[$v]": set(name("v")), "[[:x:]]": set(class("x")), `[\^]`: set(unit('^')), `[\-]`: set(unit('-')), `[^\]]`: notSet(unit(']')),
		`[^a$v b-d[:x:]\b{80}-\b{81}$w]`: notSet(unit('a'), name("v"), upTo('b', 'd'), class("x"), upTo(0x110080, 0x110081), name("w")),
		"[aa a-a a]":                     set(unit('a'), unit('a'), upTo('a', 'a'), unit('a')),
	}
}

// pieces are those of a result, as they are written.
func pieces() map[string]api.Item {
	l := map[string]api.Item{"@1": copied(1), "@999999999": copied(999999999), "@7": copied(7)}
	for s, it := range sideItems() {
		if it.Kind == api.ItUnit {
			l[s] = it
			continue
		}
		l["@1:"+s] = pair(1, it)
		l["@999999999 : "+s] = pair(999999999, it)
	}
	return l
}

func TestItemsInEveryRow(t *testing.T) { // P5.1
	for s, it := range sideItems() {
		r := row(unit('x'), it, it, unit('y'))
		rest := "x " + s + " " + s + " y"
		reads(t, rest+" { > ;", api.Line{Kind: 2, Ante: r})
		reads(t, "^"+rest+"{>;", api.Line{Kind: 2, Begin: true, Ante: r})
		reads(t, rest+">;", api.Line{Kind: 2, Key: r})
		reads(t, "{ "+rest+" > ;", api.Line{Kind: 2, Key: r})
		reads(t, "} "+rest+" > ;", api.Line{Kind: 2, Post: r})
		reads(t, "}"+rest+"$ >;", api.Line{Kind: 2, Post: r, End: true})
		reads(t, s+"{"+s+"}"+s+"> ;", api.Line{Kind: 2, Ante: row(it), Key: row(it), Post: row(it)})
	}
	for s, it := range pieces() {
		r := row(unit('x'), it, it, unit('y'))
		reads(t, "> x "+s+" "+s+" y ;", api.Line{Kind: 2, Result: r, Cursor: 4})
		reads(t, "> x | "+s+" "+s+" y ;", api.Line{Kind: 2, Result: r, Cursor: 1})
		reads(t, "> x "+s+" | "+s+" y ;", api.Line{Kind: 2, Result: r, Cursor: 2})
		reads(t, ">|"+s+";", api.Line{Kind: 2, Result: row(it), Cursor: 0})
	}
}

func TestRules(t *testing.T) { // P5.1
	for s, want := range map[string]api.Line{
		">;":                    {},
		"> | ;":                 {},
		"{ > ;":                 {},
		"} > ;":                 {},
		"{ } > | ;":             {},
		"^ { > ;":               {Begin: true},
		"} $ > ;":               {End: true},
		"^ { } $ > ;":           {Begin: true, End: true},
		"a } > ;":               {Key: units("a")},
		"a b { c d } e f > g h": {Ante: units("ab"), Key: units("cd"), Post: units("ef"), Result: units("gh"), Cursor: 2},
		"a { b > ":              {Ante: units("a"), Key: units("b")},
		"^a{b}$>|c":             {Begin: true, End: true, Ante: units("a"), Key: units("b"), Result: units("c")},
		"a > b |":               {Key: units("a"), Result: units("b"), Cursor: 1},
		"a > b c | d":           {Key: units("a"), Result: units("bcd"), Cursor: 2},
		"a > @1 @2:. | @3":      {Key: units("a"), Result: row(copied(1), pair(2, anyUnit()), copied(3)), Cursor: 2},
		"$v > @1:$v":            {Key: row(name("v")), Result: row(pair(1, name("v"))), Cursor: 1},
		"$v { $w } $x $ > ":     {Ante: row(name("v")), Key: row(name("w")), Post: row(name("x")), End: true},
		"[:x:] [x] > @1:[:x:]":  {Key: row(class("x"), set(unit('x'))), Result: row(pair(1, class("x"))), Cursor: 1},
	} {
		want.Kind = api.LnRule
		s = strings.TrimSuffix(strings.TrimSpace(s), ";") + ";"
		reads(t, s, want)
		reads(t, "# on\n\t"+s+"then;"+s, at(6, want), at(6+len(s), then()), at(11+len(s), want))
	}
}

func TestWhatMayNotStandThere(t *testing.T) { // P5.1
	for s, place := range map[string]int{
		";": 0, "a > ; ;": 6, "] > ;": 0, "- > ;": 0, ": > ;": 0, "| > ;": 0, "@1 > ;": 0, "a @1 > ;": 2, "a - b > ;": 2, "a : > ;": 2, "a ] > ;": 2, "a | > ;": 2,
		"a ^ b > ;": 2, "a ^ { > ;": 2, "^ ^ { > ;": 2, "^ > ;": 2, "^ } > ;": 2, "^ ;": 2, "^ $ { > ;": 2, "^ a } b > ;": 4, "^": 1, "^ a": 3, "^a=": 2,
		"a { b { c > ;": 6, "a } b { c > ;": 6, "a } b } c > ;": 6, "{ { > ;": 2, "{ ^ > ;": 2, "} ^ > ;": 2, "{ a ;": 4, "} a ;": 4,
		"a $ > ;": 2, "$ > ;": 0, "{ $ > ;": 2, "a } $ b > ;": 6, "a } $ $ > ;": 6, "a } $ } > ;": 6, "a } b $": 7, "a } b $ ;": 8,
		"a > > ;": 4, "a > b > ;": 6, "a > b { ;": 6, "a > } ;": 4, "a > . ;": 4, "a > [b] ;": 4, "a > [:b:] ;": 4, "a > ^ ;": 4, "a > $ ;": 4, "a > b - c ;": 6, "a > b = ;": 6, "a > ] ;": 4, "a > : ;": 4, "a > b : . ;": 6,
		"a > | | ;": 6, "a > | b | ;": 8, "a > b || ;": 7, "a > @1:a ;": 7, `a > @1:\. ;`: 7, "a > @1: ;": 8, "a > @1:@2 ;": 7, "a > @1:| ;": 7, "a > @1::. ;": 7, "a > @1:$ ;": 7, "a > @1:.:. ;": 8, "a > @1 : [b]-c ;": 12, "a > @1:[b] . ;": 11, "a > @1:": 7,
		"[": 1, "[a": 2, "[^": 2, "[a-": 3, "[a-b": 4, "[a^] > ;": 2, "[^^] > ;": 2, "[-a] > ;": 1, "[^-a] > ;": 2, "[a-b-c] > ;": 4, "[a--b] > ;": 3, "[a-$v] > ;": 3, "[$v-a] > ;": 3, "[[:x:]-a] > ;": 6, "[a-[:x:]] > ;": 3, "[.] > ;": 1, "[a-.] > ;": 3, "[[a]] > ;": 1, "[@1] > ;": 1, "[a;] > ;": 2, "[a > ;": 3, "[a{] > ;": 2, "[a|] > ;": 2, "[$] > ;": 1, "[=] > ;": 1, "[ :x:] > ;": 2, "[a-] > ;": 3, "[] ] > ;": 3, "[a]": 3, "[a-^] > ;": 3, "[}] > ;": 1,
		"a >": 3, "a > |": 5, "a > @1": 6, "a {": 3, "a }": 3, "a": 1, "a b c": 5, "a > b # ;": 9, "a > b \n\t": 8, "a ; then ;": 2,
	} {
		refused(t, s, place, api.ErrParseWant)
	}
}

// Each word is a token, so that what stands ahead of it can be cut off there.
const good = "$v = [ ^ a - c $v [:x:] ] ; ^ x $v [ a ] { a . } [:y:] $ > b @1 @2 : [ ^ a - b ] @3 : $v | c ; then ; a > ;"

func TestCutOffAnywhere(t *testing.T) { // P5.1
	words := strings.Fields(good)
	for i := range words {
		for _, behind := range []string{"", " ", "\n# ;\n\t", " # a > b ;"} {
			head := strings.Join(words[:i], " ") + behind
			if i == 0 || words[i-1] == ";" {
				lines(t, head)
			} else if words[i-1] != "then" {
				refused(t, head, len(head), api.ErrParseWant)
			}
		}
	}
}

func TestRanges(t *testing.T) { // P5.1
	for s, want := range map[string]api.Item{
		"a-a": upTo('a', 'a'), "a-b": upTo('a', 'b'), `\x{0}-\x{10FFFF}`: upTo(0, 0x10FFFF), `\b{80}-\b{80}`: upTo(0x110080, 0x110080), `\b{80}-\b{FF}`: upTo(0x110080, 0x1100FF), `\x{D7FF}-\x{E000}`: upTo(0xD7FF, 0xE000), `\x{10FFFF}-\x{10FFFF}`: upTo(0x10FFFF, 0x10FFFF),
	} {
		reads(t, "["+s+"]>;", rule(row(set(want)), nil))
		reads(t, ">@1:["+s+"];", rule(nil, row(pair(1, set(want)))))
	}
	for _, s := range []string{"b-a", `\x{10FFFF}-\x{0}`, `\x{1}-\x{0}`, `\b{81}-\b{80}`, `\b{FF}-\b{80}`, `a-\b{80}`, `\b{80}-a`, `\x{10FFFF}-\b{80}`, `\b{80}-\x{10FFFF}`, `\x{0}-\b{FF}`, `\b{FF}-\x{0}`, `\x{80}-\b{80}`, `\b{80}-\x{80}`} {
		for _, ahead := range []string{"[", "[^", "$v=[", "{[", "a{[", "^a[b]{[", "}[", ">@1:[", ">a|@1:[^", "[x-y $w ", "[x "} {
			refused(t, ahead+s+"]>;", len(ahead), api.ErrParseRange)
		}
	}
}

func TestWhichShowsFirst(t *testing.T) { // P5.1
	for s, place := range map[string]int{"[c-a": 1, "[c-a >": 1, "[c-a . ;": 1, "[c-a-b]": 1, "[c-a;b-": 1, "[ # ;\nb # ;\n-# ;\na": 6, "[b-a][b-": 1, "$v=[b-a": 4, "[b-a d-c] ;": 1, "[a-b d-c b-a]": 5} {
		refused(t, s, place, api.ErrParseRange)
	}
	for s, place := range map[string]int{"[c-": 3, "[c-]": 3, "[c-$a]": 3, "[. c-a]": 1, "; [c-a] > ;": 0, "^ a > [c-a] ;": 4, "a [a-b ; [c-a] > ;": 7, "a > [c-a] ;": 4, "$v = a [c-a] ;": 7, "[a-c-a]": 4} {
		refused(t, s, place, api.ErrParseWant)
	}
}

func TestScansFaults(t *testing.T) { // P5.1
	for s, want := range map[string]api.Fault{
		",": {At: 0, Code: api.ErrScanByte}, "a > b ; \xFF": {At: 8, Code: api.ErrScanByte}, "; ; \\q": {At: 4, Code: api.ErrScanEscape}, "[c-a] @0": {At: 6, Code: api.ErrScanNumber}, "^ a > [:": {At: 6, Code: api.ErrScanOpen}, "] $" + strings.Repeat("n", 33): {At: 2, Code: api.ErrScanName}, "= [:a]": {At: 2, Code: api.ErrScanName},
		strings.Repeat("a", 600) + ",": {At: 600, Code: api.ErrScanByte}, strings.Repeat("#", 32769): {At: 32768, Code: api.ErrLong}, strings.Repeat(";", 32769): {At: 32768, Code: api.ErrLong}, strings.Repeat(",", 32769): {At: 32768, Code: api.ErrLong},
	} {
		if l, f := parse.Parse(s); f != want || len(l) != 0 {
			t.Errorf("%.100q: %d lines, %v; want %v", s, len(l), f, want)
		}
	}
}

// lines are those of a good text.
func lines(t *testing.T, s string) []api.Line {
	t.Helper()
	l, f := parse.Parse(s)
	if f != (api.Fault{}) {
		t.Errorf("%.200q: %v", s, f)
	}
	return l
}
