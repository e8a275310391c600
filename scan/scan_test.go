package scan_test

import (
	"math"
	"strings"
	"testing"

	"respell/api"
	"respell/scan"
)

func unit(at, n, u int) api.Token { return api.Token{Kind: 1, At: at, Len: n, Unit: u} }

func name(at, n int, text string) api.Token {
	return api.Token{Kind: 2, At: at, Len: n, Text: text}
}

func copied(at, n, num int) api.Token { return api.Token{Kind: 3, At: at, Len: n, Num: num} }

func sign(at, kind int) api.Token { return api.Token{Kind: kind, At: at, Len: 1} }

// units are the runes of bytes below 80 that stand for themselves, side by side.
func units(at int, s string) []api.Token {
	var l []api.Token
	for i := range len(s) {
		l = append(l, unit(at+i, 1, int(s[i])))
	}
	return l
}

// refused wants a fault at a place, whatever tokens stand ahead of it, and nothing else; and of the same text farther back in another one, likewise.
func refused(t *testing.T, s string, at int, code api.Errno) {
	t.Helper()
	for _, ahead := range []string{"", "a ", ";", "$v = [:x:] ;\n", "then; # on\n", "é\t\\b{80} "} {
		wantScan(t, ahead+s, nil, api.Fault{At: len(ahead) + at, Code: code})
	}
}

func TestExamples(t *testing.T) { // P4.1, P4.2, P4.3
	for s, want := range map[string][]api.Token{
		"a > b ;":       {unit(0, 1, 'a'), sign(2, 10), unit(4, 1, 'b'), sign(6, 11)},
		"$v=[:x:]":      {name(0, 2, "$v"), sign(2, 21), name(3, 5, ":x:")},
		"$ >":           {sign(0, 16), sign(2, 10)},
		`\x{e9}é\b{e9}`: {unit(0, 6, 0xE9), unit(6, 2, 0xE9), unit(8, 6, 0x1100E9)},
		"then # on\n;then > x;": {
			name(0, 4, "then"), sign(10, 11), unit(11, 1, 't'), unit(12, 1, 'h'), unit(13, 1, 'e'), unit(14, 1, 'n'), sign(16, 10), unit(18, 1, 'x'), sign(19, 11),
		},
	} {
		wantScan(t, s, want, api.Fault{})
	}
	for s, want := range map[string]api.Fault{
		"@12 @0":   {At: 4, Code: api.ErrScanNumber},
		"a,":       {At: 1, Code: api.ErrScanByte},
		`\q`:       {At: 0, Code: api.ErrScanEscape},
		`\x{D800}`: {At: 0, Code: api.ErrScanEscape},
		`\x{`:      {At: 0, Code: api.ErrScanOpen},
		"\xFF":     {At: 0, Code: api.ErrScanByte},
		"[:a]":     {At: 0, Code: api.ErrScanName},
		"[:a:":     {At: 0, Code: api.ErrScanOpen},
	} {
		wantScan(t, s, nil, want)
	}
}

func TestLetBy(t *testing.T) { // P4.1
	for _, s := range []string{"", " ", "\t", "\n", "\r", " \t\r\n ", "#", "##", "#\n", "# a > , \\q @0 [: \xFF \x00\n", "#\n#\n#", "#\r\n", " # a\n\t# b"} {
		wantScan(t, s, nil, api.Fault{})
		wantScan(t, "a"+s, units(0, "a"), api.Fault{})
	}
	// Only a line feed ends a remark.
	for _, s := range []string{"#\ra", "#\ta", "# a", "#a", "#;", "#\u0085a", "#\u2028a", "#\va", "#\\\n", "#\x8Aa"} {
		wantScan(t, s, nil, api.Fault{})
	}
	wantScan(t, " \t\r\n#,\n\n a # b\nc", []api.Token{unit(9, 1, 'a'), unit(15, 1, 'c')}, api.Fault{})
	// Blanks of other kinds are not let by.
	for _, b := range []byte{0, 8, 11, 12, 14, 31, 127} {
		refused(t, string([]byte{b}), 0, api.ErrScanByte)
	}
	for _, r := range []rune{0x80, 0x85, 0xA0, 0x2028, 0x3000, 0xFEFF} {
		wantScan(t, string(r), []api.Token{unit(0, len(string(r)), int(r))}, api.Fault{})
	}
}

func TestSigns(t *testing.T) { // P4.1, P4.4
	for i := range len(signsByTable) {
		s := signsByTable[i : i+1]
		wantScan(t, s, []api.Token{sign(0, 10+i)}, api.Fault{})
		wantScan(t, "a"+s+" a", []api.Token{unit(0, 1, 'a'), sign(1, 10+i), unit(3, 1, 'a')}, api.Fault{})
		if got := scan.Sign(10 + i); got != s {
			t.Errorf("Sign(%d): %q", 10+i, got)
		}
	}
	for _, kind := range []int{math.MinInt, math.MinInt + 10, -246, -1, 0, 1, 2, 3, 9, 23, 24, 266, 10 + 1<<32, math.MaxInt} {
		if s := scan.Sign(kind); s != "" {
			t.Errorf("Sign(%d): %q", kind, s)
		}
	}
}

func TestSignsSideBySide(t *testing.T) { // P4.1
	for i := range len(signsByTable) {
		for j := range len(signsByTable) {
			s := string([]byte{signsByTable[i], signsByTable[j]})
			if s != "[:" {
				wantScan(t, s, []api.Token{sign(0, 10+i), sign(1, 10+j)}, api.Fault{})
			}
		}
	}
	wantScan(t, "[ :", []api.Token{sign(0, 18), sign(2, 22)}, api.Fault{})
	wantScan(t, "[#\n:", []api.Token{sign(0, 18), sign(3, 22)}, api.Fault{})
}

func TestNames(t *testing.T) { // P4.1
	for _, n := range []string{"v", "Z", "a", "z", "A", "0", "9", "_", "then", "_a9", "0x", strings.Repeat("v", 31), strings.Repeat("9", 32), strings.Repeat("_", 32)} {
		wantScan(t, "$"+n, []api.Token{name(0, 1+len(n), "$"+n)}, api.Fault{})
		wantScan(t, "$"+n+";", []api.Token{name(0, 1+len(n), "$"+n), sign(1+len(n), 11)}, api.Fault{})
		wantScan(t, "$"+n+"é$", []api.Token{name(0, 1+len(n), "$"+n), unit(1+len(n), 2, 0xE9), sign(3+len(n), 16)}, api.Fault{})
	}
	wantScan(t, "$$v", []api.Token{sign(0, 16), name(1, 2, "$v")}, api.Fault{})
	wantScan(t, "$a$b", []api.Token{name(0, 2, "$a"), name(2, 2, "$b")}, api.Fault{})
	// All that is no name's byte leaves the sign alone.
	for _, s := range []string{"", " v", "-v", ":v", "@1", "\nv", "#\nv", "é", `\x{76}`, "ａ"} {
		if l, f := scan.Scan("$" + s); f.Code != api.OK || l[0] != sign(0, 16) {
			t.Errorf("%q: %v, %v", "$"+s, l, f)
		}
	}
	refused(t, `$\v`, 1, api.ErrScanEscape)
	refused(t, "$\x80", 1, api.ErrScanByte)
	refused(t, "$,", 1, api.ErrScanByte)
	for _, n := range []int{33, 34, 64, 1000} {
		refused(t, "$"+strings.Repeat("v", n), 0, api.ErrScanName)
		refused(t, "$"+strings.Repeat("_", n)+" ;", 0, api.ErrScanName)
	}
}

func TestClasses(t *testing.T) { // P4.1
	for _, n := range []string{"x", "Z", "0", "9", "_", "vowel", "then", "a_9", strings.Repeat("v", 31), strings.Repeat("9", 32)} {
		wantScan(t, "[:"+n+":]", []api.Token{name(0, 4+len(n), ":"+n+":")}, api.Fault{})
		wantScan(t, "[[:"+n+":]]", []api.Token{sign(0, 18), name(1, 4+len(n), ":"+n+":"), sign(5+len(n), 19)}, api.Fault{})
		wantScan(t, "[:"+n+":]:]", []api.Token{name(0, 4+len(n), ":"+n+":"), sign(4+len(n), 22), sign(5+len(n), 19)}, api.Fault{})
	}
	most, more := strings.Repeat("n", 32), strings.Repeat("n", 33)
	for _, s := range []string{"[:]", "[::", "[::]", "[:::]", "[: ", "[: a:]", "[:a :]", "[:a]", "[:a::]", "[:a: ]", "[:a:a:]", "[:a:\n]", "[:a-b:]", "[:^a:]", "[:é:]", "[:\x80", "[:a\xFF", "[:a:\xFF", "[:a:#", "[:a#\n:]", "[:$a:]", "[:a:;", "[:,", "[:a,", "[:a:,"} {
		refused(t, s, 0, api.ErrScanName)
	}
	for _, s := range []string{"[:" + more + ":]", "[:" + more + ":", "[:" + more, "[:" + most + "]", "[:" + most + ":a", "[:" + more + "]", "[:" + more + more} {
		refused(t, s, 0, api.ErrScanName)
	}
	for _, s := range []string{"[:", "[:a", "[:_", "[:9", "[:a:", "[:" + most, "[:" + most + ":", "[[:", "[[:a:"} {
		refused(t, s, strings.LastIndexByte(s, '['), api.ErrScanOpen)
	}
}

func TestCopies(t *testing.T) { // P4.1
	for s, num := range map[string]int{"1": 1, "9": 9, "10": 10, "12": 12, "100": 100, "123456789": 123456789, "999999999": 999999999, "100000000": 100000000} {
		wantScan(t, "@"+s, []api.Token{copied(0, 1+len(s), num)}, api.Fault{})
		wantScan(t, "@"+s+":[a]", []api.Token{copied(0, 1+len(s), num), sign(1+len(s), 22), sign(2+len(s), 18), unit(3+len(s), 1, 'a'), sign(4+len(s), 19)}, api.Fault{})
		wantScan(t, "@"+s+"@1", []api.Token{copied(0, 1+len(s), num), copied(1+len(s), 2, 1)}, api.Fault{})
	}
	wantScan(t, "@1 2", []api.Token{copied(0, 2, 1), unit(3, 1, '2')}, api.Fault{})
	wantScan(t, "@1a", []api.Token{copied(0, 2, 1), unit(2, 1, 'a')}, api.Fault{})
	for _, s := range []string{"@", "@ 1", "@a", "@@1", "@-1", "@+1", "@\n1", "@#\n1", "@_1", "@٣", "@\xFF", "@0", "@00", "@01", "@0123", "@012345678", "@1234567890", "@1000000000", "@0123456789", "@99999999999999999999999999", "@" + strings.Repeat("1", 3000)} {
		refused(t, s, 0, api.ErrScanNumber)
	}
}

func TestUnitsThatStandForThemselves(t *testing.T) { // P4.1
	for b := range 0x80 {
		s := string(rune(b))
		switch {
		case strings.Contains(" \t\n\r#", s):
			wantScan(t, s, nil, api.Fault{})
		case b < 32 || b == 127 || s == ",":
			refused(t, s, 0, api.ErrScanByte)
		case !strings.Contains(signsByTable+`@\`, s):
			wantScan(t, s, []api.Token{unit(0, 1, b)}, api.Fault{})
		}
	}
	for r := rune(0x80); r <= 0x10FFFF; r++ {
		if r == 0xD800 {
			r = 0xE000
		}
		s := string(r)
		if l, f := scan.Scan(s); f != (api.Fault{}) || !equal(l, []api.Token{unit(0, len(s), int(r))}) {
			t.Errorf("%x: %v, %v", r, l, f)
		}
	}
	wantScan(t, "aé€😀\uFFFDz", []api.Token{unit(0, 1, 'a'), unit(1, 2, 0xE9), unit(3, 3, 0x20AC), unit(6, 4, 0x1F600), unit(10, 3, 0xFFFD), unit(13, 1, 'z')}, api.Fault{})
}

// A stray of the text's own is none that a rule could have; within a remark it is let by.
func TestStraysOfTheText(t *testing.T) { // P4.1
	for b := 0x80; b < 0x100; b++ {
		s := string([]byte{byte(b)})
		refused(t, s, 0, api.ErrScanByte)
		refused(t, "a"+s+"a", 1, api.ErrScanByte)
		refused(t, `\`+s, 0, api.ErrScanEscape)
		wantScan(t, "#"+s+"\na", []api.Token{unit(3, 1, 'a')}, api.Fault{})
	}
	for _, s := range []string{"\xE2\x82", "\xF0\x9F\x98", "\xED\xA0\x80", "\xC0\x80", "\xF4\x90\x80\x80", "\xC3", "\xE2\x82a", "\xC3 \xA9"} {
		refused(t, s, 0, api.ErrScanByte)
		refused(t, "é"+s, 2, api.ErrScanByte)
	}
	// Behind whole runes a byte that could go on with one is a stray, and so are bytes that a remark parts.
	refused(t, "é\xA9", 2, api.ErrScanByte)
	refused(t, "€€\xAC", 6, api.ErrScanByte)
	refused(t, "\xC3#\n\xA9", 0, api.ErrScanByte)
	wantScan(t, "#\xC3\n", nil, api.Fault{})
	refused(t, "#\xC3\n\xA9", 3, api.ErrScanByte)
}

func TestEscapedRunes(t *testing.T) { // P4.2
	for s, u := range map[string]int{
		`\x{0}`: 0, `\x{9}`: 9, `\x{a}`: 10, `\x{A}`: 10, `\x{f}`: 15, `\x{F}`: 15, `\x{41}`: 0x41, `\x{041}`: 0x41, `\x{000041}`: 0x41, `\x{000000}`: 0, `\x{eF}`: 0xEF,
		`\x{7F}`: 0x7F, `\x{80}`: 0x80, `\x{FF}`: 0xFF, `\x{FFFD}`: 0xFFFD, `\x{FFFF}`: 0xFFFF, `\x{00ffff}`: 0xFFFF, `\x{10000}`: 0x10000,
		`\x{D7FF}`: 0xD7FF, `\x{E000}`: 0xE000, `\x{00D7fF}`: 0xD7FF, `\x{10FFFF}`: 0x10FFFF, `\x{10ffff}`: 0x10FFFF, `\x{abcde}`: 0xABCDE,
	} {
		wantScan(t, s, []api.Token{unit(0, len(s), u)}, api.Fault{})
		wantScan(t, s+"}"+s+"0", []api.Token{unit(0, len(s), u), sign(len(s), 13), unit(1+len(s), len(s), u), unit(1+2*len(s), 1, '0')}, api.Fault{})
	}
	for _, s := range []string{
		`\x{D800}`, `\x{DFFF}`, `\x{dabc}`, `\x{00D800}`, `\x{110000}`, `\x{11007F}`, `\x{110080}`, `\x{1100FF}`, `\x{110100}`, `\x{200000}`, `\x{FFFFFF}`, `\x{0000041}`, `\x{0000000}`, `\x{1234567}`, `\x{100000041}`,
		`\x{}`, `\x{g}`, `\x{G}`, `\x{4g}`, `\x{+4}`, `\x{-4}`, `\x{4_1}`, `\x{ 41}`, `\x{41 }`, "\\x{41\n}", `\x{4,}`, `\x{0x4}`, `\x41`, `\x 41`, `\x[41]`, `\x}`, `\x;`, `\xx{41}`, `\x{{41}`, `\x{41]`, `\x{41{`, `\x{٣}`, "\\x{\xFF", "\\x\xFF", "\\x{4\x80}", `\X{41}`, `\u{41}`, `\x#`, `\x{#`,
	} {
		refused(t, s, 0, api.ErrScanEscape)
	}
}

func TestEscapedStrays(t *testing.T) { // P4.2
	const low, high = "0123456789abcdef", "0123456789ABCDEF"
	for b := range 0x100 {
		for _, digits := range []string{
			string([]byte{low[b>>4], low[b&15]}), string([]byte{high[b>>4], high[b&15]}), string([]byte{low[b>>4], high[b&15]}), string([]byte{high[b>>4], low[b&15]}),
		} {
			s := `\b{` + digits + "}"
			if b < 0x80 {
				refused(t, s, 0, api.ErrScanEscape)
			} else {
				wantScan(t, s+"}", []api.Token{unit(0, 6, 0x110000+b), sign(6, 13)}, api.Fault{})
			}
		}
	}
	for _, s := range []string{`\b{}`, `\b{8}`, `\b{F}`, `\b{080}`, `\b{800}`, `\b{0FF}`, `\b{FFF}`, `\b{000080}`, `\b{8g}`, `\b{g0}`, `\b{+8}`, `\b{8 }`, `\b{ 80}`, `\b{80 }`, `\b{8,`, `\b80`, `\b 80`, `\b[80]`, `\b;`, `\b{80]`, `\bb{80}`, "\\b{\x80}", "\\b\x80", `\B{80}`, `\b#`, `\b{80#`} {
		refused(t, s, 0, api.ErrScanEscape)
	}
}

// Strays that are escaped stay strays, also where their bytes would make a rune.
func TestEscapedStraysMakeNoRune(t *testing.T) { // P4.2
	wantScan(t, `\b{C3}\b{A9}`, []api.Token{unit(0, 6, 0x1100C3), unit(6, 6, 0x1100A9)}, api.Fault{})
}

func TestEscapedBytes(t *testing.T) { // P4.2
	for b := range 0x100 {
		s := `\` + string([]byte{byte(b)})
		letter := b >= 'a' && b <= 'z' || b >= 'A' && b <= 'Z'
		switch digit := b >= '0' && b <= '9'; {
		case b == 'x' || b == 'b':
			refused(t, s, 0, api.ErrScanOpen)
			refused(t, s+" ", 0, api.ErrScanEscape)
		case b < 32 || b > 126 || letter || digit:
			refused(t, s, 0, api.ErrScanEscape)
			refused(t, s+"{80}", 0, api.ErrScanEscape)
		default:
			wantScan(t, s, []api.Token{unit(0, 2, b)}, api.Fault{})
			wantScan(t, s+"a", []api.Token{unit(0, 2, b), unit(2, 1, 'a')}, api.Fault{})
		}
	}
	refused(t, `\é`, 0, api.ErrScanEscape)
	wantScan(t, `\\\\`, []api.Token{unit(0, 2, '\\'), unit(2, 2, '\\')}, api.Fault{})
	wantScan(t, `\#a`, []api.Token{unit(0, 2, '#'), unit(2, 1, 'a')}, api.Fault{})
	wantScan(t, `\$v`, []api.Token{unit(0, 2, '$'), unit(2, 1, 'v')}, api.Fault{})
	wantScan(t, `\[:a:]`, []api.Token{unit(0, 2, '['), sign(2, 22), unit(3, 1, 'a'), sign(4, 22), sign(5, 19)}, api.Fault{})
}

// Behind each byte of an escape: the text's end, or a byte that may not stand there.
func TestWhereAnEscapeEnds(t *testing.T) { // P4.2
	for _, whole := range []string{`\x{1}`, `\x{41}`, `\x{10FFFF}`, `\x{00D800}`, `\x{FFFFFF}`, `\x{110080}`, `\b{80}`, `\b{FF}`, `\b{00}`, `\b{7f}`} {
		for n := 1; n < len(whole); n++ {
			refused(t, whole[:n], 0, api.ErrScanOpen)
			// Behind the backslash alone these would be escapes of their own.
			for _, other := range []string{"g", "\n", "é", "\xFF"} {
				refused(t, whole[:n]+other, 0, api.ErrScanEscape)
			}
			if n > 1 {
				for _, other := range []string{" ", "_", "#", ",", `\`, ";"} {
					refused(t, whole[:n]+other, 0, api.ErrScanEscape)
				}
			}
		}
	}
	for _, s := range []string{`\x{1234567`, `\x{0000000`, `\x{12345678`, `\b{800`, `\b{000`, `\b{8000`} {
		refused(t, s, 0, api.ErrScanEscape)
	}
}

func TestThen(t *testing.T) { // P4.1
	end := func(at int) []api.Token { return []api.Token{name(at, 4, "then")} }
	for ahead, l := range map[string][]api.Token{
		"": nil, " ": nil, "\t\r\n": nil, "# then ;\n": nil, "#\n#\n ": nil,
		";": {sign(0, 11)}, "; ": {sign(0, 11)}, ";;": {sign(0, 11), sign(1, 11)}, "; # a\n\t": {sign(0, 11)}, "a;": {unit(0, 1, 'a'), sign(1, 11)},
		"then;": {name(0, 4, "then"), sign(4, 11)}, "\\;;": {unit(0, 2, ';'), sign(2, 11)},
	} {
		for _, between := range []string{"", " ", "\t", "\n", "\r", "#\n", "# a ; then ; , \xFF\n", " \t\r\n# a\n # b\n\n"} {
			at := len(ahead)
			stop := at + 4 + len(between)
			want := append(append(l[:len(l):len(l)], end(at)...), sign(stop, 11))
			wantScan(t, ahead+"then"+between+";", want, api.Fault{})
			wantScan(t, ahead+"then"+between+";,", nil, api.Fault{At: stop + 1, Code: api.ErrScanByte})
			wantScan(t, ahead+"then"+between+";then;", append(want, name(stop+1, 4, "then"), sign(stop+5, 11)), api.Fault{})
		}
	}
}

func TestThenAsFourUnits(t *testing.T) { // P4.1
	// What stands behind is no sign ;.
	for _, behind := range []string{"", " ", "\n", "#", "#;", "# ;", " #\r;", "#\n", " #\n #;"} {
		wantScan(t, "then"+behind, units(0, "then"), api.Fault{})
		wantScan(t, ";then"+behind, append([]api.Token{sign(0, 11)}, units(1, "then")...), api.Fault{})
	}
	wantScan(t, "then > ;", append(units(0, "then"), sign(5, 10), sign(7, 11)), api.Fault{})
	wantScan(t, "thens;", append(units(0, "thens"), sign(5, 11)), api.Fault{})
	wantScan(t, "then_;", append(units(0, "then_"), sign(5, 11)), api.Fault{})
	wantScan(t, "thené;", append(units(0, "then"), unit(4, 2, 0xE9), sign(6, 11)), api.Fault{})
	wantScan(t, `then\;;`, append(units(0, "then"), unit(4, 2, ';'), sign(6, 11)), api.Fault{})
	wantScan(t, "then then ;", append(append(units(0, "then"), units(5, "then")...), sign(10, 11)), api.Fault{})
	wantScan(t, "then\uFF1B", append(units(0, "then"), unit(4, 3, 0xFF1B)), api.Fault{})
	refused(t, "then,;", 4, api.ErrScanByte)
	refused(t, "then\v;", 4, api.ErrScanByte)
	// What stands ahead is another token than the sign ;.
	for ahead, l := range map[string][]api.Token{
		"a": {unit(0, 1, 'a')}, "a ": {unit(0, 1, 'a')}, `\;`: {unit(0, 2, ';')}, "> ": {sign(0, 10)}, ":": {sign(0, 22)}, "{": {sign(0, 12)}, "$v ": {name(0, 2, "$v")}, "[:x:]": {name(0, 5, ":x:")}, "@1": {copied(0, 2, 1)}, "; a#;\n": {sign(0, 11), unit(2, 1, 'a')}, `\x{3b}`: {unit(0, 6, ';')}, "\uFF1B": {unit(0, 3, 0xFF1B)},
	} {
		at := len(ahead)
		wantScan(t, ahead+"then;", append(append(l, units(at, "then")...), sign(at+4, 11)), api.Fault{})
	}
	// Not these four bytes, or not side by side.
	for _, s := range []string{"Then;", "THEN;", "the;", "hen;", "tthen;", "thhen;", "thenn;"} {
		n := len(s) - 1
		wantScan(t, s, append(units(0, s[:n]), sign(n, 11)), api.Fault{})
	}
	wantScan(t, "th en;", append(append(units(0, "th"), units(3, "en")...), sign(5, 11)), api.Fault{})
	wantScan(t, "the#\nn;", append(append(units(0, "the"), unit(5, 1, 'n')), sign(6, 11)), api.Fault{})
	wantScan(t, `\x{74}hen;`, append(append([]api.Token{unit(0, 6, 't')}, units(6, "hen")...), sign(9, 11)), api.Fault{})
	wantScan(t, "$then;", []api.Token{name(0, 5, "$then"), sign(5, 11)}, api.Fault{})
	wantScan(t, "[:then:];", []api.Token{name(0, 8, ":then:"), sign(8, 11)}, api.Fault{})
}

func TestLong(t *testing.T) { // P4.3
	const most = 32768
	all := strings.Repeat("a", most)
	wantScan(t, all, units(0, all), api.Fault{})
	wantScan(t, strings.Repeat(" ", most), nil, api.Fault{})
	wantScan(t, "#"+strings.Repeat("\xFF", most-1), nil, api.Fault{})
	wantScan(t, all[:most-1]+",", nil, api.Fault{At: most - 1, Code: api.ErrScanByte})
	wantScan(t, all[:most-1]+`\`, nil, api.Fault{At: most - 1, Code: api.ErrScanOpen})
	wantScan(t, strings.Repeat(" ", most-1)+"a", []api.Token{unit(most-1, 1, 'a')}, api.Fault{})
	// Length comes ahead of all else.
	for _, s := range []string{all + "a", all + ",", "," + all, strings.Repeat(" ", most+1), "#" + all, "\xFF" + all, all + all, `\` + all, all[1:] + "é", all + "\xFF"} {
		wantScan(t, s, nil, api.Fault{At: most, Code: api.ErrLong})
	}
}

// The first token that is refused is the one that is told, whatever stands behind it.
func TestTheFirstFault(t *testing.T) { // P4.3
	faults := map[string]api.Errno{
		",": api.ErrScanByte, "\xFF": api.ErrScanByte, `\q`: api.ErrScanEscape, "[:]": api.ErrScanName, "@0": api.ErrScanNumber, "$" + strings.Repeat("v", 33): api.ErrScanName, `\x{D800}`: api.ErrScanEscape,
	}
	open := []string{`\`, `\x{`, "[:a", "[:"}
	for one, code := range faults {
		for two := range faults {
			refused(t, "a > "+one+" "+two, 4, code)
		}
		for _, s := range open {
			refused(t, "a "+one+" "+s, 2, code)
		}
	}
}

func TestEachByteWhereItMatters(t *testing.T) { // P4.1, P4.2
	ahead := []string{"", "a", "$", "$v", "[", "[:", "[:a", "[:a:", "@", "@1", `\`, `\x`, `\x{`, `\x{4`, `\b`, `\b{`, `\b{8`, `\b{80`, "then", "the", "# ", ";", "\xC3", "\xE2\x82"}
	behind := []string{"", "a", "}", ":]", "]", ";", "\n;", "0}"}
	for b := range 0x100 {
		for _, a := range ahead {
			for _, c := range behind {
				against(t, a+string([]byte{byte(b)})+c)
			}
		}
	}
}

func TestAllPairsOfBytes(t *testing.T) { // P4.1, P4.2
	for a := range 0x100 {
		for b := range 0x100 {
			against(t, string([]byte{byte(a), byte(b)}))
		}
	}
}

func TestAgainstTheTables(t *testing.T) { // P4.1, P4.2, P4.3
	rows(pieces, 3, func(s string) { against(t, s) })
	long(pieces, 4000, 8, func(s string) { against(t, s) })
	// Without what is refused at once, long texts have many tokens.
	calm := []string{"a", "t", "then", "then", "$v", "$", " ", "\n", ";", ";", "# then ;\n", "[:x:]", "[", "]", "@12", `\;`, `\x{e9}`, `\b{80}`, "é", "😀", "|", "-"}
	long(calm, 2000, 40, func(s string) { against(t, s) })
}

func TestWriteEachUnit(t *testing.T) { // P4.4
	for u, want := range map[int]string{
		0xE9: `\x{E9}`, ' ': `\ `, '>': `\>`, 0x110080: `\b{80}`,
		0: `\x{0}`, 1: `\x{1}`, 9: `\x{9}`, 10: `\x{A}`, 13: `\x{D}`, 31: `\x{1F}`, 127: `\x{7F}`, 128: `\x{80}`, 0xAB: `\x{AB}`, 0x100: `\x{100}`, 0xABC: `\x{ABC}`, 0xD7FF: `\x{D7FF}`, 0xE000: `\x{E000}`, 0xFFFD: `\x{FFFD}`, 0xFFFF: `\x{FFFF}`, 0x10000: `\x{10000}`, 0x10FFFF: `\x{10FFFF}`,
		0x110081: `\b{81}`, 0x1100AB: `\b{AB}`, 0x1100C3: `\b{C3}`, 0x1100FF: `\b{FF}`,
		'a': "a", 'z': "z", 'A': "A", 'x': "x", 'b': "b", '0': "0", '9': "9", '_': "_", '!': "!", '~': "~", '"': `"`, '\'': "'", '%': "%", '&': "&", '(': "(", ')': ")", '*': "*", '+': "+", '/': "/", '<': "<", '?': "?", '`': "`",
		'@': `\@`, '#': `\#`, '\\': `\\`, ',': `\,`, '$': `\$`, '[': `\[`, ']': `\]`, ':': `\:`, ';': `\;`, '-': `\-`,
	} {
		if s, err := scan.Write(u); s != want || err != api.OK {
			t.Errorf("Write(%x): %q, %d; want %q", u, s, err, want)
		}
	}
	for b := 33; b < 127; b++ {
		want := string(rune(b))
		if strings.Contains(signsByTable+`@#\,`, want) {
			want = `\` + want
		}
		if s, err := scan.Write(b); s != want || err != api.OK {
			t.Errorf("Write(%x): %q, %d; want %q", b, s, err, want)
		}
	}
}

func TestWriteWhatIsNoUnit(t *testing.T) { // P4.4, R2
	none := []int{math.MinInt, math.MinInt + 'a', -1 << 32, -128, -32, -1, 0xD800, 0xDABC, 0xDFFF, 0x110000, 0x110001, 0x110061, 0x11007F, 0x110100, 0x1101FF, 0x200000, 1<<31 + 'a', 1<<32 + 'a', 1<<32 + 0x80, math.MaxInt}
	for _, u := range none {
		if s, err := scan.Write(u); s != "" || err != api.ErrArg {
			t.Errorf("Write(%x): %q, %d", u, s, err)
		}
	}
	for u := -0x200; u < 0x111000; u++ {
		is := u >= 0 && u < 0xD800 || u > 0xDFFF && u <= 0x10FFFF || u >= 0x110080 && u <= 0x1100FF
		if s, err := scan.Write(u); (err == api.OK) != is || (s == "") == is || !is && err != api.ErrArg {
			t.Errorf("Write(%x): %q, %d", u, s, err)
		}
	}
}
