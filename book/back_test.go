package book_test

import (
	"fmt"
	"slices"
	"strings"
	"testing"

	"respell/api"
	"respell/book"
)

// The text that undoes another one: P23.3.

// stubborn is passes that can't be turned.
var stubborn = []struct {
	text string
	code api.Errno
}{
	{"a > ;", api.ErrTurnResult}, {"a > x | b ;", api.ErrTurnResult}, {"a > \\b{A9} ;", api.ErrTurnResult}, {"$n = [\\b{80}\\b{82}] ; [ab] > @1:$n ;", api.ErrTurnResult}, {"k > l ; ab > b | c ; c > d ;", api.ErrTurnResult},
	{"a > xxxxxxxxx ;", api.ErrTurnMany},
	{"[ab] > x ;", api.ErrTurnTwice}, {"[ab] > @1@1 ;", api.ErrTurnTwice}, {"a > x ; b > x ;", api.ErrTurnTwice}, {". > x ;", api.ErrTurnTwice},
	{"a > x ; b > xy ;", api.ErrTurnPrefix}, {"k > l ; a > xyz ; b > x ;", api.ErrTurnPrefix},
	{"a } b > x ; b > y ;", api.ErrTurnContext}, {"x { a > x ;", api.ErrTurnContext}, {"# it\n $n = [kx] ; $n { a > x ;", api.ErrTurnContext},
}

// willing is passes that can be, each with what undoes it.
var willing = [][2]string{
	{"", ""}, {"  # nothing\n", ""}, {"$m = a ;", ""}, {"a > b ;", "b > a ;\n"}, {"[a-c]>@1:[x-z];", "[x-z] > @1:[a-c] ;\n"}, {"a > b ; b > a ;", "b > a ;\na > b ;\n"}, {"ab > @2@1 ; d > é ;", "b a > a b ;\n\\x{E9} > d ;\n"},
	{"x } 1 > y ;", "y } 1 > x ;\n"}, {"^ 1 [23] { a[bc] } [1-3] \\b{E2} $ > @2:[yz] y x ;", "^ 1 [2-3] { [y-z] y x } [1-3] \\b{E2} $ > a @1:[b-c] ;\n"},
	{"\\b{C3} > E ;", "E > \\b{C3} ;\n"}, {"[ab] > @1 ;", "[a-b] > @1 ;\n"}, {"[a][b]>x ;", "x > a b ;\n"}, {"a > @1@1:[b] ;", "a b > a ;\n"},
}

func TestBackOfOnePass(t *testing.T) { // P23.3
	for _, x := range willing {
		turned(t, x[0], x[1])
	}
	for _, x := range stubborn {
		stands(t, x.text, 0, x.code)
	}
	turned(t, "$v = [ac] ; $w = [$v x-z] ; $w > @1 ; 1 { $w > @1 ;", "[a c x-z] > @1 ;\n1 { [a c x-z] > @1 ;\n")
	turned(t, "[:digit:] > @1:[a-j] ;", "[a-j] > @1:[0-9] ;\n")
	turned(t, "[^[:ascii:]] > @1 ;", "[\\x{80}-\\x{D7FF} \\x{E000}-\\x{10FFFF}] > @1 ;\n")
}

func TestBackOfMorePasses(t *testing.T) { // P23.3: in the other order
	turned(t, "a > b ; then ; c > d ;", "d > c ;\nthen ;\nb > a ;\n")
	turned(t, "a > b ; then ; c > d ; e > f ; then ; g > h ;", "h > g ;\nthen ;\nd > c ;\nf > e ;\nthen ;\nb > a ;\n")
	turned(t, "$v = [ab] ; $v > @1:[cd] ; then ; 1 { $v > @1:[xy] ;", "1 { [x-y] > @1:[a-b] ;\nthen ;\n[c-d] > @1:[a-b] ;\n")
	turned(t, "", "")
	turned(t, "then ;", "then ;\n")
	turned(t, "then ; then ;", "then ;\nthen ;\n")
	turned(t, "then ; a > b ;", "b > a ;\nthen ;\n")
	turned(t, "a > b ; then ;", "then ;\nb > a ;\n")
	turned(t, "then ; then ; a > b ; then ; # x", "then ;\nb > a ;\nthen ;\nthen ;\n")
	turned(t, strings.Repeat("then ;", 15), strings.Repeat("then ;\n", 15))
	text, want := "", ""
	for n := range 16 {
		text += fmt.Sprintf("%c > %c ; then ;", 'a'+n, 'A'+n)
		want = fmt.Sprintf("%c > %c ;\nthen ;\n", 'A'+n, 'a'+n) + want
	}
	turned(t, strings.TrimSuffix(text, "then ;"), strings.TrimSuffix(want, "then ;\n"))
}

func TestWhichPassStandsInTheWay(t *testing.T) { // P23.3: its number, in the text's order
	for _, x := range stubborn {
		for most := range 16 {
			for at := range most + 1 {
				l := slices.Repeat([]string{"p > q ;"}, most+1)
				l[at] = x.text
				stands(t, strings.Join(l, "then ;"), at, x.code)
			}
		}
		// Names, remarks and passes without rules are not in its way.
		stands(t, "# x\n$v = a ; then ; "+x.text+" then ; $w = $v ; then ;", 1, x.code)
		stands(t, "then ; then ;"+x.text, 2, x.code)
		stands(t, x.text+"then ; then ; p > q ;", 0, x.code)
	}
}

func TestTheLastPassIsAskedFirst(t *testing.T) { // P23.3: of two that are refused
	for _, x := range stubborn {
		for _, y := range stubborn {
			other := strings.ReplaceAll(y.text, "$n", "$o")
			stands(t, x.text+"then ;"+other, 1, y.code)
			stands(t, other+"then ; p > q ; then ;"+x.text, 2, x.code)
			stands(t, "then ;"+other+"then ;"+x.text+"then ; p > q ; then ;", 2, x.code)
		}
	}
	all := ""
	for n, x := range stubborn {
		all += strings.ReplaceAll(x.text, "$n", fmt.Sprintf("$n%d", n)) + "then ;"
	}
	stands(t, all, len(stubborn)-1, api.ErrTurnContext)
}

func TestFaultsAreToldAhead(t *testing.T) { // P23.3: ahead of what can't be turned
	for _, x := range stubborn {
		n := len(x.text)
		refused(t, x.text+"a ;", n+2, api.ErrParseWant)
		refused(t, x.text+"then ; b > | b ;", n+7, api.ErrWeighMost)
		refused(t, "$q > ; then ;"+x.text, 0, api.ErrNamesNone)
		refused(t, x.text+strings.Repeat("then ;", 16), n+96, api.ErrChainMany)
	}
}

// broad is a text that undone has just so many bytes: it gives names to sets that stand in each rule.
func broad(n int) string {
	from, to := apart(0x1000, 40), apart(0x2000, 40)
	text := "$v = [" + from + "] ; $w = [" + to + "] ;"
	rule := len("[" + to[1:] + "] > @1:[" + from[1:] + "] ;\n")
	for ; n > rule+200; n -= rule {
		text += "$v > @1:$w ;"
	}
	// Rules of 8 bytes, and of 9.
	for ; n%8 != 0; n -= 9 {
		text += "k > \\; ;"
	}
	return text + strings.Repeat("k > l ;", n/8)
}

func TestBackThatIsTooLong(t *testing.T) { // P23.3: ErrLong, with 0
	for n := 32700; n <= 32768; n++ {
		back, _, e := told(t, broad(n))
		if e != api.OK || len(back) != n {
			t.Fatalf("%d bytes, %d; want %d", len(back), e, n)
		}
		opened(t, back)
	}
	for _, n := range []int{32769, 32770, 32776, 32800, 40000, 60000} {
		stands(t, broad(n), 0, api.ErrLong)
		stands(t, "p > q ; then ; "+broad(n)+" then ; then ; q > r ;", 0, api.ErrLong)
	}
	// A line that ends a pass counts, too.
	turned(t, broad(32761)+"then ;", "then ;\n"+textByWords(undone(t, broad(32761))))
	stands(t, broad(32762)+"then ;", 0, api.ErrLong)
	stands(t, "then ;"+broad(32768), 0, api.ErrLong)
	// What stands in the way is told ahead of it, wherever it stands.
	for _, x := range stubborn {
		stands(t, broad(40000)+"then ;"+x.text, 1, x.code)
		stands(t, x.text+"then ;"+broad(40000), 0, x.code)
		stands(t, "then ;"+x.text+"then ;"+broad(40000), 1, x.code)
	}
}

// undone is the passes of what undoes a text.
func undone(t *testing.T, text string) []api.Pass {
	t.Helper()
	back, fault, _, e := book.Back(text)
	if fault.Code != api.OK || e != api.OK {
		t.Fatalf("Back of %s: %v, %d", brief(text), fault, e)
	}
	return read(t, back)
}

// The most of everything that a text may have, and that can be turned.
func TestBackOfTheGreatestTexts(t *testing.T) { // P23.3: Open takes what Back answers
	for _, text := range []string{
		strings.Repeat("a > b ;", 256), strings.Repeat(strings.Repeat("a>b;", 256)+"then;", 15) + "c>d;", "$v = [" + apart(0x1000, 512) + "] ; $w = [" + apart(0x3000, 512) + "] ; $v > @1:$w ;",
		"abcdefgh > ABCDEFGH ;", "11111111 { abcdefgh } 11111111 > ABCDEFGH ;", "[:rune:] > @1 ;", ". > @1:. ;", "$v = [:rune:] ;" + strings.Repeat("$v > @1 ;", 256),
	} {
		if back, n, e := told(t, text); e == api.OK {
			opened(t, back)
		} else if e != api.ErrTurnResult || n != 0 {
			t.Errorf("%s: %d, %d", brief(text), n, e)
		}
	}
	stands(t, "[:any:] > @1 ;", 0, api.ErrTurnResult)
}
