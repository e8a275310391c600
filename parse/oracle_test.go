package parse_test

import (
	"math/rand"
	"regexp"
	"strings"
	"testing"

	"respell/api"
	"respell/parse"
	"respell/scan"
)

// What the chapter's grammar says, as patterns over tokens, a letter each: a token may stand there, if what is read up to it can still become a text. So the tests lean on nothing of the package.

const signLetters = ">;{}|^$.[]-=:"

const (
	partPattern   = `(?:u-u|u|v|c)`
	setPattern    = `\[\^?` + partPattern + `*\]`
	pairedPattern = `(?:v|c|\.|` + setPattern + `)`
	itemPattern   = `(?:u|` + pairedPattern + `)`
	piecePattern  = `(?:u|n:` + pairedPattern + `|n)`
	namePattern   = `v=` + itemPattern + `;`
	rulePattern   = `(?:(\^?)(` + itemPattern + `*)\{)?(` + itemPattern + `*)(?:\}(` + itemPattern + `*)(\$?))?>(` + piecePattern + `*)(?:\|(` + piecePattern + `*))?;`
)

var (
	aPart  = regexp.MustCompile(partPattern)
	anItem = regexp.MustCompile(itemPattern)
	aPiece = regexp.MustCompile(piecePattern)
	aRule  = regexp.MustCompile(`\A` + rulePattern + `\z`)
	aText  = regexp.MustCompile(`\A(?:t;|` + namePattern + `|` + rulePattern + `)*\z`)
)

// What is begun can be ended by one of these.
var endings = []string{"", ";", ">;", "{>;", "];", "]>;", "]{>;", "u];", "u]>;", "u]{>;", "u;", "v;"}

func letters(l []api.Token) string {
	var b strings.Builder
	for _, x := range l {
		switch {
		case x.Kind == api.TokUnit:
			b.WriteByte('u')
		case x.Kind == api.TokCopy:
			b.WriteByte('n')
		case x.Kind == api.TokName:
			b.WriteByte(map[byte]byte{'$': 'v', ':': 'c', 't': 't'}[x.Text[0]])
		default:
			b.WriteByte(signLetters[x.Kind-10])
		}
	}
	return b.String()
}

func canGoOn(read string) bool {
	for _, end := range endings {
		if aText.MatchString(read + end) {
			return true
		}
	}
	return false
}

func parseByWords(s string) ([]api.Line, api.Fault) {
	tokens, fault := scan.Scan(s)
	if fault.Code != api.OK {
		return nil, fault
	}
	w := letters(tokens)
	for i := range w {
		if !canGoOn(w[:i+1]) {
			return nil, api.Fault{At: tokens[i].At, Code: api.ErrParseWant}
		}
		if strings.HasSuffix(w[:i+1], "u-u") && !rangeByWords(tokens[i-2].Unit, tokens[i].Unit) {
			return nil, api.Fault{At: tokens[i-2].At, Code: api.ErrParseRange}
		}
	}
	if !aText.MatchString(w) {
		return nil, api.Fault{At: len(s), Code: api.ErrParseWant}
	}
	return linesByWords(w, tokens), api.Fault{}
}

func rangeByWords(lo, hi int) bool {
	runes, strays := lo < 0x110000 && hi < 0x110000, lo >= 0x110000 && hi >= 0x110000
	return (runes || strays) && hi >= lo
}

func linesByWords(w string, tokens []api.Token) []api.Line {
	var l []api.Line
	for w != "" {
		n := strings.IndexByte(w, ';') + 1
		x := lineByWords(w[:n], tokens[:n])
		x.At = tokens[0].At
		l = append(l, x)
		w, tokens = w[n:], tokens[n:]
	}
	return l
}

func lineByWords(w string, tokens []api.Token) api.Line {
	if w == "t;" {
		return api.Line{Kind: api.LnThen}
	}
	if strings.HasPrefix(w, "v=") {
		return api.Line{Kind: api.LnName, Name: strings.Trim(tokens[0].Text, "$:"), Key: itemsByWords(anItem, w[2:len(w)-1], tokens[2:])}
	}
	m := aRule.FindStringSubmatchIndex(w)
	part := func(i int, of *regexp.Regexp) []api.Item {
		if m[2*i] < 0 {
			return nil
		}
		return itemsByWords(of, w[m[2*i]:m[2*i+1]], tokens[m[2*i]:])
	}
	stands := func(i int) bool { return m[2*i+1] > m[2*i] }
	done, back := part(6, aPiece), part(7, aPiece)
	return api.Line{Kind: api.LnRule, Begin: stands(1), Ante: part(2, anItem), Key: part(3, anItem), Post: part(4, anItem), End: stands(5), Result: append(done, back...), Cursor: len(done)}
}

// itemsByWords are those of a row, each one as the pattern finds it.
func itemsByWords(of *regexp.Regexp, w string, tokens []api.Token) []api.Item {
	var l []api.Item
	for _, m := range of.FindAllStringIndex(w, -1) {
		l = append(l, itemByWords(w[m[0]:m[1]], tokens[m[0]:]))
	}
	return l
}

func itemByWords(w string, tokens []api.Token) api.Item {
	first := tokens[0]
	switch {
	case w == "u":
		return unit(first.Unit)
	case w == "u-u":
		return upTo(first.Unit, tokens[2].Unit)
	case w == "v":
		return name(strings.Trim(first.Text, "$"))
	case w == "c":
		return class(strings.Trim(first.Text, ":"))
	case w == ".":
		return anyUnit()
	case w == "n":
		return copied(first.Num)
	case w[0] == 'n':
		return pair(first.Num, itemByWords(w[2:], tokens[2:]))
	case w[1] == '^':
		return notSet(itemsByWords(aPart, w[2:len(w)-1], tokens[2:])...)
	}
	return set(itemsByWords(aPart, w[1:len(w)-1], tokens[1:])...)
}

func against(t *testing.T, s string) {
	t.Helper()
	l, f := parse.Parse(s)
	want, fault := parseByWords(s)
	if f != fault || !same(l, want) {
		t.Errorf("%.300q: %v, %v; want %v, %v", s, l, f, want, fault)
	}
}

var tokenTexts = []string{"a", "$v", "[:x:]", "then", "@1", ">", ";", "{", "}", "|", "^", "$", ".", "[", "]", "-", "=", ":"}

func TestAllShortTexts(t *testing.T) { // P5.1
	var add func(s string, n int)
	add = func(s string, n int) {
		against(t, s)
		if n == 0 {
			return
		}
		for _, x := range tokenTexts {
			add(s+x+" ", n-1)
		}
	}
	add("", 3)
	for _, ahead := range []string{"$v = ", "^ ", "a { ", "} ", "> ", "> a | ", "[ ", "[^ ", "[a- ", "> @1: ", "$v = [ ", "> @1:[ ", "^ [ ", "a > b ; ", "} . $ ", "{ $v "} {
		add(ahead, 2)
	}
}

// goodTexts have all that a text may have.
var goodTexts = []string{
	good, exampleText, "$v = [aeiou]; then ; > ;", "then > x ;", "a > ; then ; then ; b > ;",
	`^ { [^] } $ > | ;`, `$w = $v ; $v > @1:$w @2 @1:[:x:] | @1:. ;`, `[$v \b{80}-\b{81} [:x:] a-a] { . } [] > \b{80} ;`, "{ } > ; } > ; ^ [:x:] { > ;",
}

// The tokens of good texts, each one left out, doubled, changed for any other one, and with any other one ahead.
func TestTextsWithOneFault(t *testing.T) { // P5.1
	for _, s := range goodTexts {
		tokens, _ := scan.Scan(s)
		for i, x := range tokens {
			head, this, tail := s[:x.At], s[x.At:x.At+x.Len], s[x.At+x.Len:]
			against(t, head+tail)
			against(t, head+this+" "+this+tail)
			for _, other := range tokenTexts {
				against(t, head+" "+other+" "+tail)
				against(t, head+" "+other+" "+this+tail)
			}
			if i > 0 {
				before := tokens[i-1]
				against(t, s[:before.At]+" "+this+" "+s[before.At:before.At+before.Len]+" "+tail)
			}
		}
	}
}

func TestAnyTexts(t *testing.T) { // P5.1
	r := rand.New(rand.NewSource(5))
	words := append([]string{"b", "z", `\b{80}`, `\b{81}`, `\x{0}`, "@12", "$w", "[a-c]", "[^z $v]", "@2:.", "> ;", "a > b ;", "$v = ", "then ;", "\n# on\n", "é", "a-b", "[", "]", "[", "]", "-"}, tokenTexts...)
	for range 20000 {
		var b strings.Builder
		for range r.Intn(14) {
			b.WriteString(words[r.Intn(len(words))])
			if r.Intn(3) > 0 {
				b.WriteByte(' ')
			}
		}
		against(t, b.String())
	}
}
