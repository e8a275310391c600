package stream_test

import (
	"slices"
	"strings"
	"testing"

	"respell/stream"
)

// Close, Held, Closed, Doubt, Clone.

func TestCloseTellsTheRest(t *testing.T) { // P15.3
	goes(t, "a > x ; ab > y", "x", put{"a", "", 1})
	goes(t, "ab > y", "a", put{"a", "", 1})
	goes(t, "abc > y ; b > x", "ax", put{"ab", "", 2})
	goes(t, "aaaa > x ; aa > y ; a > z", "yz", put{"aaa", "", 3})
	// Open bytes stay strays, each by itself.
	goes(t, "", "\xF0\x90\x80", put{"\xF0\x90\x80", "", 3})
	goes(t, "\\b{F0} > x ; \\b{90} > y ; \\b{80} > z", "xyz", put{"\xF0\x90\x80", "", 3})
	goes(t, "\\b{F0}\\b{90} > x", "x\x80", put{"\xF0\x90\x80", "", 3})
	goes(t, "a } \\b{E2} > x", "x\xE2", put{"a\xE2", "", 2})
	// What was put back is left, with bytes behind it and without.
	goes(t, "a > | bc ; bcd > x ; c > y", "by", put{"a", "", 0})
	goes(t, "a > | bc ; bcde > x ; c > y", "byd", put{"ad", "", 1})
	goes(t, "a > | \\b{E2} ; \\b{E2}\\b{82}\\b{AC} > x", "\xE2\x82", put{"a\x82", "", 1})
	// The end is wanted of what Close itself puts back, too.
	goes(t, "ab } $ > | cd ; d } $ > x ; c > y", "yx", put{"ab", "", 2})
	goes(t, "a } $ > | bb ; b } $ > | c ; c } $ > x", "bx", put{"a", "", 1})
	goes(t, "a > | b ; b } $ > ", "", put{"a", "", 0})
	goes(t, "^ { a } $ > x", "x", put{"a", "", 1})
	goes(t, "^ { a } $ > x", "", put{"b", "b", 0}, put{"a", "a", 0})
}

func TestCloseWithNothingLeft(t *testing.T) { // P15.3
	for _, text := range []string{"", "a > x", "a > x ; ab > y", ". } $ > x", "b } $ > a"} {
		goes(t, text, "")
		goes(t, text, "", put{"", "", 0})
	}
	goes(t, "a > x ; ab > y", "", put{"ab", "y", 0})
	goes(t, "a > ", "", put{"aaa", "", 0})
}

func TestHeld(t *testing.T) { // P15.4
	x := begin(t, read(t, "abcdefgh } abcdefgh $ > x ; b > y"))
	for n := range 16 {
		puts(t, x, put{"abcdefghabcdefgh"[n : n+1], "", n + 1})
	}
	c := x.Clone()
	puts(t, x, put{"a", "aycdefgh", 9}, put{"\xE2", "aycdefgha", 1}, put{"\x82", "", 2}, put{"\xAC", "€", 0})
	closes(t, c, "xaycdefgh")
	// Units that were put back are no bytes.
	x = begin(t, read(t, "a > | bbb ; bbbc > x ; bbbde > y"))
	puts(t, x, put{"a", "", 0}, put{"d", "", 1}, put{"e", "y", 0}, put{"a", "", 0}, put{"d\xE2", "bbbd", 1}, put{"a", "\xE2", 0}, put{"a", "bbb", 0})
	closes(t, x, "bbb")
}

func TestDoubt(t *testing.T) { // P15.4
	for _, x := range []struct{ text, piece, front string }{
		{"a > x ; ab > y", "a", "b"},
		{"a > x ; abc > y", "ab", "c"},
		{"ab > b | c ; cd > e", "ab", "d"},
		{"a } [€] > x", "a\xE2", "\x82\xAC"},
		{"a } [€] > x", "a\xE2\x82", "\xAC"},
		{"a > | \\b{E2}\\b{82} ; \\b{E2}\\b{82}\\b{AC} > x", "a", "\xAC"},
		{"a > | \\b{E2} ; \\b{E2}\\b{82}\\b{AC} > x", "a\x82", "\xAC"},
	} {
		s := begin(t, read(t, x.text))
		s.Put([]byte(x.piece))
		for range 2 {
			if got, is := s.Doubt(); !is || !strings.HasPrefix(got, x.front) {
				t.Errorf("%s, %q: %q %v", x.text, x.piece, got, is)
			}
		}
	}
	// Where the end is wanted, anything is one.
	for _, text := range []string{"a } $ > x", "b > | a ; a } $ > x"} {
		s := begin(t, read(t, text))
		s.Put([]byte("ab"))
		s.Put([]byte("ba"))
		if got, is := s.Doubt(); !is || got == "" {
			t.Errorf("%s: %q %v", text, got, is)
		}
	}
	for _, piece := range []string{"", "b", "ab", "ac", "\x80", "€", "a\xE2a\xE2b"} {
		s := begin(t, read(t, "a > x ; ab > y"))
		s.Put([]byte(piece))
		if got, is := s.Doubt(); got != "" || is {
			t.Errorf("%q: %q %v", piece, got, is)
		}
	}
}

// To ask changes nothing.
func TestAsked(t *testing.T) { // P15.4
	x := begin(t, read(t, "a } $ > z ; a > | \\b{E2} ; \\b{E2}\\b{82}\\b{AC} > x ; ab > y"))
	ask := func() {
		for range 3 {
			x.Held()
			x.Closed()
			x.Doubt()
			x.Clone().Put([]byte("q"))
			x.Clone().Close()
		}
	}
	for _, c := range []put{{"a", "", 1}, {"b", "y", 0}, {"ac", "\xE2c", 0}, {"a\x82", "", 1}, {"\xAC", "x", 0}, {"a", "", 1}} {
		ask()
		puts(t, x, c)
		ask()
	}
	closes(t, x, "z")
}

// goneOn is what a stream tells of some pieces and its end, from now on.
func goneOn(x *stream.Stream, pieces ...string) string {
	var l []string
	for _, s := range pieces {
		l = append(l, string(x.Put([]byte(s))))
	}
	return strings.Join(append(l, string(x.Close())), "|")
}

func TestClone(t *testing.T) { // P15.4, R7
	p := read(t, "a > x ; ab > y ; y { c > | de ; def > z ; ^ y { d > f ; e } $ > g")
	// What comes ahead of the Clone, and what comes to both.
	for _, ahead := range []string{"", "a", "ab", "abc", "abcg", "b\xE2", "abcd"} {
		for _, behind := range [][]string{{}, {""}, {"b"}, {"ab", "c", "f"}, {"c", "f"}, {"\x82", "\xAC"}, {"f", "a", "b", "c"}, {"e", "e"}} {
			one, other := begin(t, p), begin(t, p)
			one.Put([]byte(ahead))
			other.Put([]byte(ahead))
			want := goneOn(other, behind...)
			c := one.Clone()
			d := c.Clone()
			if c.Held() != one.Held() || c.Closed() || c == one {
				t.Errorf("%q: %d held, not %d", ahead, c.Held(), one.Held())
			}
			s, is := one.Doubt()
			if u, also := c.Doubt(); u != s || also != is {
				t.Errorf("%q: %q %v, not %q %v", ahead, u, also, s, is)
			}
			// What the one does is not seen at the others, and the other way round.
			if got := goneOn(c, behind...); got != want {
				t.Errorf("%q, %q: %q, not %q", ahead, behind, got, want)
			}
			if one.Closed() || !c.Closed() || d.Closed() || d.Held() != one.Held() {
				t.Errorf("%q, %q: closed: %v, %v, %v", ahead, behind, one.Closed(), c.Closed(), d.Closed())
			}
			if got := goneOn(one, behind...); got != want {
				t.Errorf("%q, %q: %q, not %q", ahead, behind, got, want)
			}
			if got := goneOn(d, behind...); got != want {
				t.Errorf("%q, %q: %q, not %q", ahead, behind, got, want)
			}
			closes(t, c.Clone(), "")
			closes(t, d.Clone().Clone(), "")
		}
	}
}

// Two that part, and each sees what it wrote itself.
func TestClonesPart(t *testing.T) { // R7
	x := begin(t, read(t, "bb { a > B ; cc { a > C ; d > | bc ; bcb > 1 ; bcc > 2"))
	all := []*stream.Stream{x}
	for range 5 {
		for _, one := range slices.Clone(all) {
			c := one.Clone()
			puts(t, one, put{"xcc", "xcc", 0})
			puts(t, c, put{"xb", "x", 1}, put{"bx", "bbx", 0}, put{"bba", "bbB", 0})
			puts(t, one, put{"a", "C", 0}, put{"cc", "cc", 0}, put{"d", "", 0})
			puts(t, c, put{"d", "", 0}, put{"b", "1", 0}, put{"xcca", "xccC", 0})
			puts(t, one, put{"c", "2", 0})
			all = append(all, c)
		}
	}
	for _, one := range all {
		closes(t, one, "")
	}
}

func TestClosedClones(t *testing.T) { // P15.3, R7
	for _, piece := range []string{"", "a", "ab", "\xE2"} {
		x := begin(t, read(t, "a > x ; ab > y"))
		x.Put([]byte(piece))
		open := x.Clone()
		x.Close()
		if c := x.Clone(); !c.Closed() {
			t.Errorf("%q: not closed", piece)
		}
		closes(t, x.Clone(), "")
		if open.Closed() {
			t.Errorf("%q: closed", piece)
		}
	}
}
