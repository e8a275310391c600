package scan_test

import (
	"regexp"
	"strconv"
	"strings"
	"testing"
	"unicode/utf8"

	"respell/api"
	"respell/scan"
)

// What the chapter's tables say, as patterns, one for each row and each way to refuse it: the first one that holds says which. So the tests lean on nothing of the package.

const signsByTable = ">;{}|^$.[]-=:"

var letByWords = regexp.MustCompile(`\A(?:[ \t\n\r]|#[^\n]*(?:\n|\z))*`)

// Where a pattern has a group, that is the token; else the text is refused there.
var rowsByWords = []struct {
	there *regexp.Regexp
	kind  int
	code  api.Errno
}{
	{regexp.MustCompile(`\A(\$\w{1,32})(?:[^0-9A-Za-z_]|\z)`), api.TokName, 0},
	{regexp.MustCompile(`\A\$\w`), 0, api.ErrScanName},
	{regexp.MustCompile(`\A(\[:\w{1,32}:\])`), api.TokName, 0},
	{regexp.MustCompile(`\A\[:(?:\w{0,32}|\w{1,32}:)\z`), 0, api.ErrScanOpen},
	{regexp.MustCompile(`\A\[:`), 0, api.ErrScanName},
	{regexp.MustCompile(`\A([>;{}|^$.\[\]\-=:])`), api.TokSign, 0},
	{regexp.MustCompile(`\A(@[1-9][0-9]{0,8})(?:[^0-9]|\z)`), api.TokCopy, 0},
	{regexp.MustCompile(`\A@`), 0, api.ErrScanNumber},
	{regexp.MustCompile(`\A(\\x\{0{0,5}[0-9A-Fa-f]{1,3}\})`), api.TokUnit, 0},
	{regexp.MustCompile(`\A(\\x\{0{0,2}(?:[0-9A-CE-Fa-ce-f][0-9A-Fa-f]|[Dd][0-7])[0-9A-Fa-f]{2}\})`), api.TokUnit, 0},
	{regexp.MustCompile(`\A(\\x\{(?:0?[1-9A-Fa-f]|10)[0-9A-Fa-f]{4}\})`), api.TokUnit, 0},
	{regexp.MustCompile(`\A(\\b\{[89A-Fa-f][0-9A-Fa-f]\})`), api.TokUnit, 0},
	{regexp.MustCompile("\\A(\\\\[ -/:-@\\[-`{-~])"), api.TokUnit, 0},
	{regexp.MustCompile(`\A\\(?:x(?:\{[0-9A-Fa-f]{0,6})?|b(?:\{[0-9A-Fa-f]{0,2})?)?\z`), 0, api.ErrScanOpen},
	{regexp.MustCompile(`\A\\`), 0, api.ErrScanEscape},
	{thenByWords, api.TokName, 0},
	{regexp.MustCompile(`\A([^\x00-\x1F\x7F,])`), api.TokUnit, 0},
	{regexp.MustCompile(`\A`), 0, api.ErrScanByte},
}

var thenByWords = regexp.MustCompile(`\A(then)(?:[ \t\n\r]|#[^\n]*\n)*;`)

func scanByWords(s string) ([]api.Token, api.Fault) {
	if len(s) > 32768 {
		return nil, api.Fault{At: 32768, Code: api.ErrLong}
	}
	var l []api.Token
	for at := 0; ; at += l[len(l)-1].Len {
		at += len(letByWords.FindString(s[at:]))
		if at == len(s) {
			return l, api.Fault{}
		}
		fresh := len(l) == 0 || l[len(l)-1].Kind == 11
		t, code := firstByWords(s[at:], fresh)
		if code != api.OK {
			return nil, api.Fault{At: at, Code: code}
		}
		t.At = at
		l = append(l, t)
	}
}

func firstByWords(s string, fresh bool) (api.Token, api.Errno) {
	for _, row := range rowsByWords {
		m := row.there.FindStringSubmatch(s)
		if m == nil || row.there == thenByWords && !fresh {
			continue
		}
		// A pattern takes a stray for the rune FFFD.
		if row.code == api.OK && utf8.ValidString(m[1]) {
			return tokenByWords(row.kind, m[1]), api.OK
		}
		if row.code != api.OK {
			return api.Token{}, row.code
		}
	}
	panic("the last row always holds")
}

func tokenByWords(kind int, s string) api.Token {
	t := api.Token{Kind: kind, Len: len(s)}
	switch kind {
	case api.TokName:
		t.Text = s
		if s[0] == '[' {
			t.Text = s[1 : len(s)-1]
		}
	case api.TokSign:
		t.Kind += strings.Index(signsByTable, s)
	case api.TokCopy:
		t.Num, _ = strconv.Atoi(s[1:])
	case api.TokUnit:
		t.Unit = unitByWords(s)
	}
	return t
}

func unitByWords(s string) int {
	switch {
	case len(s) > 2 && s[0] == '\\':
		n, _ := strconv.ParseInt(s[3:len(s)-1], 16, 64)
		if s[1] == 'b' {
			n += 0x110000
		}
		return int(n)
	case s[0] == '\\':
		return int(s[1])
	}
	r, _ := utf8.DecodeRuneInString(s)
	return int(r)
}

// against holds what Scan tells of a text against the patterns.
func against(t *testing.T, s string) {
	t.Helper()
	want, fault := scanByWords(s)
	wantScan(t, s, want, fault)
}

func wantScan(t *testing.T, s string, want []api.Token, fault api.Fault) {
	t.Helper()
	l, f := scan.Scan(s)
	if f != fault || !equal(l, want) {
		t.Errorf("%.200q: %v, %v; want %v, %v", s, few(l), f, few(want), fault)
	}
}

func equal(l, m []api.Token) bool {
	if len(l) != len(m) {
		return false
	}
	for i := range l {
		if l[i] != m[i] {
			return false
		}
	}
	return true
}

func few(l []api.Token) []api.Token { return l[:min(len(l), 20)] }

// pieces are what tokens, and what is none, begin with, go on with and end with.
var pieces = []string{
	"a", "t", "then", "n", "x", "b", "e", "F", "0", "9", "80", "D800", "110080", "_", "$", "$v", "[", ":", "]", "[:", "[:v", ":]", "[:v:]", "@", "@1", `\`, `\x`, `\b`, `\x{`, `\b{`, `\x{41}`, `\b{80}`, "{", "}", "^", "|", ".", "-", "=", ">", ";",
	" ", "\t", "\n", "\r", "#", "# ;\n", ",", "\x00", "\v", "\x1F", "\x7F", "\u0080", "é", "€", "\uFFFD", "😀", "\x80", "\xC3", "\xE2\x82", "\xFF",
}

// rows gives every row of up to most of the parts, the empty one too.
func rows(parts []string, most int, give func(string)) {
	give("")
	if most == 0 {
		return
	}
	for _, p := range parts {
		rows(parts, most-1, func(rest string) { give(p + rest) })
	}
}

// long gives long rows of the parts, the same ones each time.
func long(parts []string, many, each int, give func(string)) {
	x := uint32(7)
	for range many {
		var b strings.Builder
		for range each {
			x = x*1664525 + 1013904223
			b.WriteString(parts[int(x>>8)%len(parts)])
		}
		give(b.String())
	}
}
