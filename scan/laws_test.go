package scan_test

import (
	"fmt"
	"strconv"
	"strings"
	"testing"

	"respell/api"
	"respell/scan"
)

// What follows of the chapter's promises: P4.5, P4.6.

func TestWrittenUnitsAreScannedSo(t *testing.T) { // P4.5
	for u := range 0x110100 {
		s, err := scan.Write(u)
		if err != api.OK {
			continue
		}
		if l, f := scan.Scan(s); f != (api.Fault{}) || !equal(l, []api.Token{unit(0, len(s), u)}) {
			t.Errorf("%x, written %q: %v, %v", u, s, l, f)
		}
	}
}

// spelt is a token as it is written, without its place.
func spelt(t *testing.T, x api.Token) string {
	t.Helper()
	s := ""
	switch x.Kind {
	case api.TokUnit:
		s, _ = scan.Write(x.Unit)
	case api.TokName:
		s = x.Text
		if s[0] == ':' {
			s = "[" + s + "]"
		}
	case api.TokCopy:
		s = "@" + strconv.Itoa(x.Num)
	default:
		s = scan.Sign(x.Kind)
	}
	if s == "" {
		t.Fatalf("%v is not to be written", x)
	}
	return s
}

// kinds are tokens of all kinds, also those that mean something else side by side.
func kinds() []api.Token {
	var l []api.Token
	for kind := 10; kind <= 22; kind++ {
		l = append(l, api.Token{Kind: kind})
	}
	for _, u := range []int{'t', 'h', 'e', 'n', 'x', '1', '_', '{', '}', '$', '@', '#', '\\', ',', ':', ';', ' ', '\n', 0, 0xE9, 0xFFFD, 0x1F600, 0x1100C3, 0x1100A9} {
		l = append(l, api.Token{Kind: 1, Unit: u})
	}
	for _, n := range []string{"$v", "$then", "$_9", ":vowel:", ":then:", "$" + strings.Repeat("n", 32), ":" + strings.Repeat("n", 32) + ":"} {
		l = append(l, api.Token{Kind: 2, Text: n})
	}
	for _, n := range []int{1, 12, 999999999} {
		l = append(l, api.Token{Kind: 3, Num: n})
	}
	return l
}

var letBy = []string{" ", "\t", "\n", "\r", "#\n", " # a > ; then ; @0 , \xFF é \\\n", "\r\n\t ##\n#\n"}

// together writes tokens with something between each two, and tells the text and the tokens with their places.
func together(t *testing.T, l []api.Token, between string) (string, []api.Token) {
	t.Helper()
	var b strings.Builder
	var placed []api.Token
	for i, x := range l {
		if i > 0 {
			b.WriteString(between)
		}
		x.At = b.Len()
		b.WriteString(spelt(t, x))
		x.Len = b.Len() - x.At
		placed = append(placed, x)
	}
	return b.String(), placed
}

func TestWrittenTokensAreScannedSo(t *testing.T) { // P4.5
	all := kinds()
	for _, between := range letBy {
		s, want := together(t, all, between)
		wantScan(t, s, want, api.Fault{})
		wantScan(t, s+between, want, api.Fault{})
		for _, x := range all {
			for _, y := range all {
				s, want := together(t, []api.Token{x, y}, between)
				wantScan(t, s, want, api.Fault{})
			}
		}
	}
	for _, x := range all {
		for _, y := range all {
			for _, z := range all {
				s, want := together(t, []api.Token{x, y, z}, " ")
				wantScan(t, s, want, api.Fault{})
			}
		}
	}
}

func TestTheWordThenIsScannedSo(t *testing.T) { // P4.5
	then, end := api.Token{Kind: 2, Text: "then"}, api.Token{Kind: 11}
	for _, between := range letBy {
		for _, x := range kinds() {
			s, want := together(t, []api.Token{then, end, x, end, then, end, then, end, x}, between)
			wantScan(t, s, want, api.Fault{})
		}
		// The same four units, each by itself, never make the word.
		s, want := together(t, []api.Token{{Kind: 1, Unit: 't'}, {Kind: 1, Unit: 'h'}, {Kind: 1, Unit: 'e'}, {Kind: 1, Unit: 'n'}, end}, between)
		wantScan(t, s, want, api.Fault{})
	}
}

// What is let by may be anything else that is let by: the tokens differ by their places alone.
func TestLetByIsLetBy(t *testing.T) { // P4.5
	bare := func(l []api.Token) string {
		for i := range l {
			l[i].At = 0
		}
		return fmt.Sprint(l)
	}
	parts := []string{" ", " ", " ", " ", "then", "then", "t", ";", "; ", "$v", "$", "[:x:]", "[", ":", "@1", `\;`, "é", ">", ","}
	long(parts, 3000, 8, func(s string) {
		one, f := scan.Scan(s)
		for _, other := range letBy {
			two, g := scan.Scan(strings.ReplaceAll(s, " ", other))
			if bare(one) != bare(two) || f.Code != g.Code {
				t.Errorf("%q with %q: %v, %v; %v, %v", s, other, one, f, two, g)
			}
		}
	})
}

func TestPlaces(t *testing.T) { // P4.6
	seen := map[int]int{}
	look := func(s string) {
		l, f := scan.Scan(s)
		if f != (api.Fault{}) {
			return
		}
		end := 0
		for _, x := range l {
			seen[x.Kind]++
			if x.At < end || x.Len < 1 || x.At+x.Len > len(s) || letByWords.FindString(s[end:x.At]) != s[end:x.At] {
				t.Errorf("%q: %v behind %d", s, x, end)
				return
			}
			end = x.At + x.Len
		}
		if letByWords.FindString(s[end:]) != s[end:] {
			t.Errorf("%q: a token is missing behind %d", s, end)
		}
	}
	rows(pieces, 2, look)
	calm := append([]string{"$name", "[:x:]", "@7", `\x{41}`, `\b{ff}`, "then;", "é", " ", "\n", "# b\n", ";"}, strings.Split(signsByTable, "")...)
	long(calm, 3000, 25, look)
	for _, kind := range []int{1, 2, 3, 10, 11, 12, 13, 14, 15, 16, 17, 18, 19, 20, 21, 22} {
		if seen[kind] == 0 {
			t.Errorf("no token of the kind %d was seen", kind)
		}
	}
}
