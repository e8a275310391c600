package utf_test

import (
	"slices"
	"strings"
	"testing"

	"respell/api"
	"respell/utf"
)

func TestByteForByte(t *testing.T) { // P1.7, W1
	texts(func(s string) {
		if back, err := utf.Join(utf.Cut(s)); back != s || err != api.OK {
			t.Fatalf("Join of Cut of %x: %x, %d", s, back, err)
		}
		if !utf.Proper(utf.Cut(s)) {
			t.Fatalf("Cut(%x) is not proper", s)
		}
	})
	unitRows(func(l []int) {
		s, err := utf.Join(l)
		if err != api.OK || slices.Equal(utf.Cut(s), l) != utf.Proper(l) {
			t.Errorf("Cut of Join of %x: %x, and Proper %v", l, utf.Cut(s), utf.Proper(l))
		}
	})
}

func TestTheLanguagesOwn(t *testing.T) { // P1.8
	texts(func(s string) {
		var places []int
		var runes []rune
		for at, r := range s {
			places, runes = append(places, at), append(runes, r)
		}
		i := 0
		for at, u := range utf.All(s) {
			if i == len(places) || at != places[i] {
				t.Fatalf("All(%x): a unit at %d", s, at)
			}
			if want := rune(u); u < stray && want != runes[i] || u >= stray && runes[i] != 0xFFFD {
				t.Fatalf("All(%x): %x at %d", s, u, at)
			}
			i++
		}
		if i != len(places) {
			t.Fatalf("All(%x): %d units", s, i)
		}
	})
}

func TestTwoPieces(t *testing.T) { // P1.9
	texts(func(s string) {
		whole := utf.Cut(s)
		for at := 0; at <= len(s); at++ {
			two := append(utf.Cut(s[:at]), utf.Cut(s[at:])...)
			if slices.Equal(two, whole) != utf.Border(s, at) {
				t.Fatalf("%x at %d: %x, and Border %v", s, at, two, utf.Border(s, at))
			}
		}
	})
}

func TestBorderHangsOnSixBytes(t *testing.T) { // P1.9
	few := each([]byte{0x61, 0x80, 0xBF, 0xC3, 0xE2, 0xF0})
	ahead := []string{"a", "\x80", "\xC3", "\xE2\x82", "\xF0\x9F", "\xF0\x9F\x98", "😀"}
	behind := []string{"a", "\x80", "\xA9", "\xC3", "\x80\x80"}
	rows(few, 6, func(six string) {
		if len(six) != 6 {
			return
		}
		want := utf.Border(six, 3)
		for _, a := range ahead {
			for _, b := range behind {
				if utf.Border(a+six+b, len(a)+3) != want {
					t.Fatalf("%x, %x, %x: Border is not %v", a, six, b, want)
				}
			}
		}
	})
	texts(func(s string) {
		for at := range len(s) + 1 {
			from, to := max(0, at-3), min(len(s), at+3)
			if utf.Border(s, at) != utf.Border(s[from:to], at-from) {
				t.Fatalf("Border(%x, %d) hangs on bytes farther off", s, at)
			}
		}
	})
}

func TestNoBorderIsLost(t *testing.T) { // P1.10
	var later []string
	rows(each([]byte{0x61, 0x80, 0xBF, 0x9F, 0xC3}), 3, func(s string) { later = append(later, s) })
	look := func(s string) {
		n, _, _ := utf.Open(s)
		var borders []int
		for at := range len(s) - n + 1 {
			if utf.Border(s, at) {
				borders = append(borders, at)
			}
		}
		if borders[len(borders)-1] != len(s)-n {
			t.Fatalf("%x: Open tells %d, and there is no border", s, n)
		}
		for _, more := range later {
			for _, at := range borders {
				if !utf.Border(s+more, at) {
					t.Fatalf("%x: %d is no border with %x behind", s, at, more)
				}
			}
		}
	}
	rows(each(edges), 2, look)
	rows(pieces, 2, look)
}

func TestEachOpenRuneMayYetCome(t *testing.T) { // P1.10
	for _, head := range []string{"\xC2", "\xC3", "\xDF", "\xE0", "\xE0\xA0", "\xE2\x82", "\xED", "\xED\x9F", "\xEE\x80", "\xEF\xBF", "\xF0", "\xF0\x90", "\xF0\x9F\x98", "\xF4", "\xF4\x8F", "\xF4\x8F\xBF"} {
		for _, ahead := range []string{"", "a", "é", "\x80", "\xF0\x9F", "\xE2"} {
			s := ahead + head
			n, lo, hi := utf.Open(s)
			if n != len(head) {
				t.Errorf("Open(%x): %d", s, n)
				continue
			}
			for r := lo; r <= hi; r++ {
				b := bytesByTable(r)
				if !strings.HasPrefix(b, head) || len(b) <= len(head) {
					t.Fatalf("%x is not one of which %x is the beginning", r, head)
				}
				whole := s + b[n:]
				if u, w := utf.First(whole[len(s)-n:]); u != r || w != len(b) || !utf.Border(whole, len(s)-n) {
					t.Fatalf("%x: %x is not yet to come: %x", s, r, u)
				}
			}
		}
	}
}

func TestTheGapInWhatIsOpen(t *testing.T) { // P1.6, P1.10: a text that is not open becomes no rune, whatever comes
	for _, s := range []string{"\xED\xA0", "\xF0\x80", "\xF4\x90", "\xE0\x9F", "\xC0", "\xF5", "\x80"} {
		for a := range 0x100 {
			for _, b := range edges {
				whole := s + string([]byte{byte(a), b})
				if !utf.Border(whole, len(s)) {
					t.Fatalf("%x became a rune's: %x", s, whole)
				}
			}
		}
	}
}
