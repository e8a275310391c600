package book_test

import (
	"fmt"
	"slices"
	"strings"
	"testing"

	"respell/api"
	"respell/book"
)

// What may be wrong with a text: P23.1, and of it P23.2, P23.3.

// samples are texts that may be: of all ways of writing.
var samples = []string{
	"", "then ;", "then ; then ;", "a > b ;", "a>b;", "# nothing\n", "a > ; then ; € > E ;", "$v = [aeiou] ; $v > ; then ; b > B ;", "[a-c] > @1:[x-z] ;", "^ { a > A ; then ; a } $ > Z ;",
	"$v=[ab];$w=[$v c];then;$w>@1:[xyz];then;$v{x>@1@1|y;", "ab > b | c ; c > d ;", "[:lower:] > @1:[:lower:] ; . } [:digit:] > \\* ;", "\\b{C3} > \\x{C3} ; \\b{A9} > ; then ; x 1 { [^x] 2 } [1-3] . $ > @2 @1:[^x] | ;",
	"a > | bb ; b > | cc ; c > d ;", "then # on\n ; then > x ; then ; t h e n > ;",
}

// texts are what runs over them.
var texts = []string{"", "a", "abc", "abaco", "aXa", "xaby1", "\xE2a\x82\xAC", "then ;", "x1a23", "é\xC3a\xA9€", "\x80\xFF\x00", strings.Repeat("abcx1€\xE2", 40)}

// beginnings is good texts that end a line, without a rule in their last pass; behind them no name stands that the wrong ones give.
var beginnings = []string{
	"", " ", "\n\r\t  ", "# a remark ; then ;\n", "$k = a ;", " $k=[a-z];# and\n$l=[$k[:digit:]] ;\n", "then ;", "then;then;\n", "k > l ; then ;", "then ; k > l ; m > ; then ; # x\n", "k > | l ; l > m ; then ; $k = [kl] ; then ; $k > @1 ; then ; ",
	"$kkkk = é ;", "é > € ; then ; $k = € ;", "\\b{E2} > ; then ; ", "t h e n > ; then;", strings.Repeat("then;", 14), strings.Repeat("#\n", 1000),
}

// companions is rules of the same pass ahead, in which nothing is wrong; of each the place of its first rule.
var companions = []struct {
	text string
	at   int
}{
	{"", -1}, {"k > l ;", 0}, {"  k > l ; l > m ;\n", 2}, {"$n = k ; k > l ; $o = $n ; $o l > n ;", 9}, {"# k > l ;\n $n=[kl] ; #\n$n > ; # x\n", 23}, {"^ k { l > n ; l } $ > ;", 0}, {"> x ;", -2},
}

func TestWhatCanNotBeRead(t *testing.T) { // P23.1: parse.Parse's fault
	many := strings.Repeat("a ", 512)
	for _, x := range []struct {
		text string
		at   int
		code api.Errno
	}{
		{"a > , ;", 4, api.ErrScanByte}, {"a \xFF > ;", 2, api.ErrScanByte}, {"\x01 > ;", 0, api.ErrScanByte}, {"a > é\xA9 ;", 6, api.ErrScanByte},
		{"a > \\q ;", 4, api.ErrScanEscape}, {"\\x{D800} > ;", 0, api.ErrScanEscape}, {"a > b\\b{7F} ;", 5, api.ErrScanEscape},
		{"[:a] > ;", 0, api.ErrScanName}, {"[[:none:]a] $" + strings.Repeat("n", 33) + " > ;", 12, api.ErrScanName},
		{"a > @ ;", 4, api.ErrScanNumber}, {"a > @1 @0 ;", 7, api.ErrScanNumber}, {"a > @1234567890 ;", 4, api.ErrScanNumber},
		{"a > \\", 4, api.ErrScanOpen}, {"a > b ; \\x{12", 8, api.ErrScanOpen}, {"a > b ; [:abc", 8, api.ErrScanOpen},
		{"a > b", 5, api.ErrParseWant}, {"a ;", 2, api.ErrParseWant}, {";", 0, api.ErrParseWant}, {"a > $v ;", 4, api.ErrParseWant}, {"then", 4, api.ErrParseWant}, {"$v = a b ;", 7, api.ErrParseWant}, {"a > b | c | ;", 10, api.ErrParseWant}, {"[a-] > ;", 3, api.ErrParseWant}, {"a > @1:b ;", 7, api.ErrParseWant},
		{"[c-a] > ;", 1, api.ErrParseRange}, {"a > @1:[x \\b{80}-\\x{100}] ;", 10, api.ErrParseRange},
		{many + "a > ;", 1024, api.ErrParseMany}, {"a > " + many + "b ;", 1028, api.ErrParseMany}, {"$v = [" + many + "c-a] ;", 1030, api.ErrParseMany}, {many + "a { b > ;", 1024, api.ErrParseMany},
	} {
		for _, ahead := range beginnings {
			refused(t, ahead+x.text, len(ahead)+x.at, x.code)
			for _, by := range companions {
				refused(t, ahead+by.text+x.text, len(ahead)+len(by.text)+x.at, x.code)
			}
		}
	}
}

func TestTextsThatAreTooLong(t *testing.T) { // P23.1: parse.Parse's fault, MaxSource
	for _, text := range samples {
		most := text + strings.Repeat("\n", 32768-len(text))
		ran(t, most, "1", "1")
		refused(t, most+"\n", 32768, api.ErrLong)
		refused(t, " "+most, 32768, api.ErrLong)
	}
	for _, text := range []string{"\\q > ;", "a ;", "$q > x ;", "a > | a ;", strings.Repeat("then ;", 16), " > ;"} {
		refused(t, text+strings.Repeat(" ", 32769), 32768, api.ErrLong)
	}
	refused(t, strings.Repeat("then;", 6553), 32765, api.ErrChainMany)
	refused(t, strings.Repeat("a", 32768), 512, api.ErrParseMany)
	refused(t, strings.Repeat("\xFF", 1<<20), 32768, api.ErrLong)
}

// nameless is lines of which names.Passes tells something wrong; the line that is told, and where it begins.
var nameless = []struct {
	text string
	at   int
	code api.Errno
}{
	{"$q > x ;", 0, api.ErrNamesNone}, {"x $q { y > ;", 0, api.ErrNamesNone}, {"a } b $q > ;", 0, api.ErrNamesNone}, {"a > x @1:$q ;", 0, api.ErrNamesNone}, {"[a $q] > ;", 0, api.ErrNamesNone}, {"$d = $q ;", 0, api.ErrNamesNone}, {"$d = $d ;", 0, api.ErrNamesNone}, {"  # it\n$K > x ;", 7, api.ErrNamesNone}, {"$q > ; $q = a ;", 0, api.ErrNamesNone},
	{"$d = a ; $d = b ;", 9, api.ErrNamesTwice}, {"$d = a ; then ; d > ; $d = a ;", 22, api.ErrNamesTwice}, {"$d=a;$e=b; $d=c;$e=c;", 11, api.ErrNamesTwice},
	{"[:none:] > x ;", 0, api.ErrClassName}, {"a > @1:[:none:] ;", 0, api.ErrClassName}, {"^ { [^a[:Digit:]] > ;", 0, api.ErrClassName}, {"$d = [:none:] ;", 0, api.ErrClassName}, {"a>b; a } [:x:] > ;", 5, api.ErrClassName},
	{wide("$d = ", " ;"), 0, api.ErrSetMany}, {wide("a { ", " > ;"), 0, api.ErrSetMany}, {wide("[:digit:] > @1:", " ;"), 0, api.ErrSetMany}, {halves + " [$left $right] > ;", len(halves) + 1, api.ErrSetMany},
}

// wide is a line with an item that has too many ranges: the runes between 512 of them.
func wide(ahead, behind string) string { return ahead + "[^" + apart(0x1000, 512) + "]" + behind }

// apart is n units of which no two touch, as they are written.
func apart(from, n int) string {
	var b strings.Builder
	for i := range n {
		fmt.Fprintf(&b, " \\x{%X}", from+2*i)
	}
	return b.String()
}

// halves gives two names that have too many ranges together.
var halves = "$left = [" + apart(0x1000, 256) + "] ; $right = [" + apart(0x2000, 257) + "] ;"

func TestNamesThatAreNot(t *testing.T) { // P23.1: names.Passes' error, at the line that it names
	codes := map[api.Errno]int{}
	for _, x := range nameless {
		codes[x.code]++
		for _, ahead := range beginnings {
			refused(t, ahead+x.text, len(ahead)+x.at, x.code)
			if x.code == api.ErrSetMany && len(ahead) > 6 {
				// Great ones take their time.
				continue
			}
			for _, by := range companions {
				at := len(ahead) + len(by.text)
				refused(t, ahead+by.text+x.text, at+x.at, x.code)
				refused(t, ahead+by.text+x.text+" [a-c] > b ; then ; $z = a ;\n# end", at+x.at, x.code)
			}
		}
	}
	if len(codes) != 4 {
		t.Errorf("%v", codes)
	}
}

// lame is rules of which weigh.Check refuses the pass, whatever else it has.
var lame = []struct {
	text string
	code api.Errno
}{
	{"> x ;", api.ErrRuleKey}, {"^ a { } $ > x ;", api.ErrRuleKey}, {"aaaaaaaaa > ;", api.ErrRuleKey}, {"aaaaaaaaa { > ;", api.ErrRuleKey},
	{"aaaaaaaaa { a > ;", api.ErrRuleMany}, {"a } aaaaaaaaa > ;", api.ErrRuleMany}, {"a > aaaaaaaaaaaaaaaaa ;", api.ErrRuleMany}, {"a > aaaaaaaa | @1@1@1@1@1@1@1@1@1 ;", api.ErrRuleMany},
	{"[] > x ;", api.ErrRuleSet}, {"[^[:rune:]] > ;", api.ErrRuleSet}, {"[] { a > ;", api.ErrRuleSet}, {"a } a [] > ;", api.ErrRuleSet},
	{"a > @2 ;", api.ErrRuleCopy}, {"ab > @3:[a] ;", api.ErrRuleCopy}, {"a } bc > @2 ;", api.ErrRuleCopy}, {"a > @999999999 ;", api.ErrRuleCopy},
	{"[a-c] > @1:[x-y] ;", api.ErrRulePair}, {"a > @1:[xy] ;", api.ErrRulePair}, {"a > @1:[] ;", api.ErrRulePair}, {"a. > @1:[b] @2:[:rune:] ;", api.ErrRulePair},
	{"[ab]c > | @1 ;", api.ErrWeighBack}, {"abc > | @3@3 ;", api.ErrWeighBack}, {"a > x | @1 ;", api.ErrWeighBack},
	{"a > | a ;", api.ErrWeighMost}, {"ab > | ba ;", api.ErrWeighMost}, {"[a-c] > x | @1:[c-e] ;", api.ErrWeighMost}, {"a > | b ; b > | a ;", api.ErrWeighMost}, {"a > | bbbbbbbb ; b > | cccccccc ;", api.ErrWeighMost},
}

func TestPassesThatMayNotBe(t *testing.T) { // P23.1: chain.New's error, at the first rule of the pass that it names
	codes := map[api.Errno]int{}
	for _, x := range lame {
		codes[x.code]++
		for _, ahead := range beginnings {
			for _, by := range companions {
				at, code := len(ahead)+len(by.text), x.code
				if by.at >= 0 {
					at = len(ahead) + by.at
				}
				if by.at == -2 {
					at, code = len(ahead), api.ErrRuleKey
				}
				text := ahead + by.text + x.text
				refused(t, text, at, code)
				refused(t, text+" y > z ; $z = [yz] ; then ; # and\n a > b ;", at, code)
				refused(t, ahead+by.text+"\n # a > b ;\n"+x.text, at+tail(by.at, 12), code)
			}
		}
	}
	if len(codes) != 7 {
		t.Errorf("%v", codes)
	}
}

// tail is n, where the rule that is told stands behind what was put in; else 0.
func tail(at, n int) int {
	if at == -1 {
		return n
	}
	return 0
}

func TestTooManyRules(t *testing.T) { // P23.1: ErrRuleMany of a whole pass
	most := strings.Repeat("k > l;", 256)
	for _, ahead := range beginnings {
		ran(t, ahead+most, "1", "1")
		refused(t, ahead+most+"k > l ;", len(ahead), api.ErrRuleMany)
		refused(t, ahead+" "+most+"$z = a ; a > b ;", len(ahead)+1, api.ErrRuleMany)
		refused(t, ahead+"$z = a ; # x\n"+most+" > ; then ; > ;", len(ahead)+13, api.ErrRuleMany)
	}
}

func TestTooManyPasses(t *testing.T) { // P23.1: ErrChainMany, at the text's length
	for n := range 20 {
		for _, then := range []string{"then ;", "then;", "a > b ; then ;", "$k = a ; then ;\n"} {
			text := strings.Repeat(then, n)
			if strings.Contains(then, "$") {
				// Each name once.
				text = ""
				for i := range n {
					text += fmt.Sprintf("$k%d = a ; then ;\n", i)
				}
			}
			for _, end := range []string{"", " ", "a > b ;", "x > ; # and\n", "$z = a ; $z > ;  "} {
				if n < 16 {
					opened(t, text+end)
				} else {
					refused(t, text+end, len(text)+len(end), api.ErrChainMany)
				}
			}
		}
	}
}

func TestWhichIsToldOfTwo(t *testing.T) { // P23.1: by what tells it, then by where it stands
	seventeen := strings.Repeat("then ;", 16)
	// What can't be cut into tokens is told ahead of all; then what can't be read as lines.
	for _, wrong := range []string{"\\q > ;", ", ;", "@0 ;"} {
		for _, ahead := range []string{"a ;", "[c-a] > ;", "$q > x ;", "$d = a ; $d = b ;", "[:none:] > x ;", "> ;", "a > | a ;", "ab > | ba ;", seventeen} {
			_, fault := readByWords(wrong)
			refused(t, ahead+wrong, len(ahead)+fault.At, fault.Code)
			refused(t, wrong+ahead, fault.At, fault.Code)
		}
	}
	for _, wrong := range []string{"a ;", "[c-a] > ;", "a > b | | ;", strings.Repeat("a", 513) + " > ;"} {
		for _, ahead := range []string{"$q > x ;", "$d = a ; $d = b ;", "[:none:] > x ;", "> ;", "a > | a ;", "ab > | ba ;", seventeen} {
			_, fault := readByWords(wrong)
			refused(t, ahead+wrong, len(ahead)+fault.At, fault.Code)
			refused(t, wrong+ahead, fault.At, fault.Code)
		}
	}
	// Then names, ahead of how many passes there are, and of each pass.
	for _, x := range nameless {
		for _, ahead := range []string{"> ;", "a > | a ;", "ab > | ba ;", "[] > ; then ;", "then ; a > @2 ; then ;", "a > @1:[xy] ;", "[ab]c > | @1 ;", seventeen, strings.Repeat("k > l ;", 257)} {
			refused(t, ahead+x.text, len(ahead)+x.at, x.code)
			refused(t, x.text+ahead, x.at, x.code)
		}
	}
	// Then how many passes there are.
	for _, x := range lame {
		refused(t, x.text+seventeen, len(x.text+seventeen), api.ErrChainMany)
		refused(t, seventeen+x.text, len(x.text+seventeen), api.ErrChainMany)
		refused(t, "then ;"+x.text+seventeen+"#", len(x.text+seventeen)+7, api.ErrChainMany)
	}
}

func TestTheFirstOfTwo(t *testing.T) { // P23.1: of the same kind
	for _, x := range lame {
		for _, y := range lame {
			refused(t, "then ; "+x.text+" then ; "+y.text, 7, x.code)
			refused(t, x.text+" then ; k > l ; then ; "+y.text, 0, x.code)
		}
	}
	for _, x := range nameless {
		for _, y := range nameless {
			// Of the two no name may be given twice, nor come to be known.
			other := strings.NewReplacer("$d", "$f", "$e", "$g", "$left", "$l", "$right", "$r", "$q", "$p").Replace(y.text)
			refused(t, x.text+"then ; "+other, x.at, x.code)
		}
	}
	refused(t, "a ; [c-a] > ;", 2, api.ErrParseWant)
	refused(t, "[c-a] > ; a ;", 1, api.ErrParseRange)
	refused(t, "\\q @0", 0, api.ErrScanEscape)
	refused(t, "@0 \\q", 0, api.ErrScanNumber)
	// Within a pass it is by rule.All ahead of what rules put back.
	refused(t, "k > l ; a > | a ; > ;", 0, api.ErrRuleKey)
	refused(t, "k > l ; a > | a ; [ab] > | @1 ;", 0, api.ErrWeighBack)
	refused(t, "k > l ; then ; a > | a ; a > @2 ; > x ;", 15, api.ErrRuleCopy)
}

func TestTextsThatMayBe(t *testing.T) { // P23.1: what is not wrong
	for _, ahead := range beginnings {
		for _, by := range companions {
			if by.at != -2 {
				opened(t, ahead+by.text)
				opened(t, ahead+by.text+"[a-c] > @1:[x-z] | ;")
				if strings.Count(ahead, "then") < 14 {
					opened(t, ahead+by.text+"then ; ab > b | c ; c > d ; then ; # and")
				}
			}
		}
	}
	opened(t, strings.Repeat("then ;", 15))
	opened(t, strings.Repeat("a > b ;", 256))
	opened(t, strings.Repeat(strings.Repeat("a>;", 120)+"then;", 15))
	opened(t, "aaaaaaaa { aaaaaaaa } aaaaaaaa > aaaaaaaaaaaaaaaa ;")
	opened(t, "$d = a ; then ; $D = $d ; $d1 = $D ; $_ = [$d $D $d1] ; $_ > ;")
	opened(t, "$"+strings.Repeat("n", 32)+" = a ;")
	opened(t, "$d = ["+apart(0x1000, 512)+"] ; $d > @1:$d ;")
}

// Drawn texts with one line that is wrong: the place is known by where that was put.
func TestAnyTextsWithOneWrongLine(t *testing.T) { // P23.1
	m := made(231, 0)
	codes, first := map[api.Errno]int{}, 0
	for range 2000 {
		d := m.drawn(pick(m, 0, 2, 6, 15), false)
		n := m.Intn(len(d.lines) + 1)
		if m.Intn(2) == 0 {
			x := pick(m, nameless...)
			lines := slices.Insert(slices.Clone(d.lines), n, x.text)
			text, at := m.laid(lines)
			refused(t, text, at[n]+x.at, x.code)
			codes[x.code]++
			continue
		}
		x := pick(m, lame...)
		text, at := m.laid(slices.Insert(slices.Clone(d.lines), n, x.text))
		place := at[n]
		for i := n - 1; i >= 0 && kind(d.lines[i]) != isThen; i-- {
			if kind(d.lines[i]) == isRule {
				place = at[i]
			}
		}
		refused(t, text, place, x.code)
		codes[x.code]++
		if place != at[n] {
			first++
		}
	}
	if len(codes) != 11 || first < 250 {
		t.Errorf("%v, %d not at the line itself", codes, first)
	}
}

// Texts in which much may be wrong at once, against the words.
func TestAnyTexts(t *testing.T) { // P23.1 to P23.3
	codes, answers := map[api.Errno]int{}, map[api.Errno]int{}
	for _, m := range []maker{made(232, 0), made(233, 1)} {
		for range 1500 {
			d := m.drawn(pick(m, 1, 4, 8, 16), true)
			for m.wrong > 0 && m.Intn(2) == 0 {
				d.lines = slices.Insert(d.lines, m.Intn(len(d.lines)+1), pick(m, pick(m, nameless...).text, pick(m, lame...).text, "a > , ;", "a ;", "[c-a] > ;", strings.Repeat("then ;", m.Intn(17))))
			}
			text := d.text()
			_, fault := readByWords(text)
			codes[fault.Code]++
			if fault.Code != api.OK {
				refused(t, text, fault.At, fault.Code)
				continue
			}
			_, _, e := told(t, text)
			answers[e]++
			ranByWords(t, text, m.textOf(40, letters))
		}
	}
	if len(codes) < 15 || codes[api.OK] < 1000 || answers[api.OK] < 150 || len(answers) < 4 {
		t.Errorf("the texts are too tame or too wild: %v, %v", codes, answers)
	}
}

// Any bytes whatever, most of them ones that mean something.
func TestAnyBytes(t *testing.T) { // P23.1, R1
	m := made(234, 0)
	codes := map[api.Errno]int{}
	signs := ">;{}|^$.[]-=:@#\\, \nab1xthen\x80\xFF"
	for range 20000 {
		b := make([]byte, m.Intn(30))
		for i := range b {
			b[i] = pick(m, byte(m.Intn(256)), ';', '>', signs[m.Intn(len(signs))], signs[m.Intn(len(signs))])
		}
		text := string(b)
		if m.Intn(2) == 0 {
			text = pick(m, samples...)
			at := m.Intn(len(text) + 1)
			text = text[:at] + string(b[:m.Intn(min(len(b), 2)+1)]) + text[min(len(text), at+m.Intn(3)):]
		}
		_, fault := readByWords(text)
		codes[fault.Code]++
		if fault.Code != api.OK {
			if _, f := book.Open(text); f != fault {
				t.Fatalf("Open of %q: %v; want %v", text, f, fault)
			}
			continue
		}
		ranByWords(t, text, "abx1\xFF")
		told(t, text)
	}
	if codes[api.OK] < 1000 || len(codes) < 8 {
		t.Errorf("%v", codes)
	}
}
