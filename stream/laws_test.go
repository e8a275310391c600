package stream_test

import (
	"runtime"
	"slices"
	"strings"
	"testing"
	"unicode/utf8"

	"respell/api"
	"respell/machine"
	"respell/pass"
	"respell/stream"
)

// What follows: P15.5 to P15.8.

// toldOf is what is told of a text, by Puts of its pieces.
func toldOf(x *stream.Stream, pieces ...string) string {
	var told []byte
	for _, s := range pieces {
		told = append(told, x.Put([]byte(s))...)
	}
	return string(told)
}

func TestAnyPieces(t *testing.T) { // P15.5, W2, W4
	m := made(156)
	for range 1500 {
		p, text := pick(m, m.fine, m.deep)(8), m.text(30)
		want, e := pass.Run(p, text)
		if e != api.OK {
			t.Fatalf("%s: %d", brief(p), e)
		}
		first := ""
		for n := range 6 {
			x := begin(t, p)
			l := m.cut(text)
			if n == 0 {
				l = []string{text}
			}
			told := toldOf(x, l...)
			if n == 0 {
				first = told
			}
			// What has been told behind all these bytes is the same, however they were cut.
			if told != first {
				t.Fatalf("%s over %q: %q, not %q", brief(p), l, told, first)
			}
			if told += string(x.Close()); told != want {
				t.Fatalf("%s over %q: %q, not %q", brief(p), l, told, want)
			}
		}
	}
}

// All ways to cut some texts in two, and in three.
func TestAllCuts(t *testing.T) { // P15.5
	for _, text := range []string{"", "a > x ; ab > y ; aba > z", "é > | \\b{C3}\\b{A9} ; \\b{C3}\\b{A9}a > x", "a } € > x ; a } \\b{E2} > y", ". } $ > x ; .. > @2 @1", "a > | \\b{E2} ; \\b{E2}\\b{82}\\b{AC} > S ; € > E", "^ { a > A ; A { a > B ; B { é > C"} {
		p := read(t, text)
		for _, s := range []string{"abaabéa€", "aéa\xC3\xA9\xA9", "a\xE2\x82a€\xE2\x82", "aa\x82\xACaé\xE2", "\xF0\x90\x80\x80\xF0\x90\x80"} {
			want, _ := pass.Run(p, s)
			for i := range len(s) + 1 {
				whole := begin(t, p)
				told := toldOf(whole, s[:i])
				for k := range i + 1 {
					if got := toldOf(begin(t, p), s[:k], s[k:i]); got != told {
						t.Errorf("%s over %q, %q: %q, not %q", text, s[:k], s[k:i], got, told)
					}
				}
				if got := told + toldOf(whole, s[i:]) + string(whole.Close()); got != want {
					t.Errorf("%s over %q, %q: %q, not %q", text, s[:i], s[i:], got, want)
				}
			}
		}
	}
}

func TestLongTexts(t *testing.T) { // P15.5, W2
	m := made(157)
	for range 12 {
		p := pick(m, m.fine, m.deep)(20)
		text := ""
		for len(text) < 15000 {
			text += m.text(500)
		}
		ready, e := machine.New(p)
		if e != api.OK {
			t.Fatalf("%s: %d", brief(p), e)
		}
		want, e := ready.Run(text)
		x := begin(t, p)
		if got := toldOf(x, m.cut(text)...) + string(x.Close()); got != want || e != api.OK {
			t.Errorf("%s: %d bytes, not %d, %d", brief(p), len(got), len(want), e)
		}
		x = begin(t, p)
		if got := toldOf(x, text) + string(x.Close()); got != want {
			t.Errorf("%s: %d bytes, not %d", brief(p), len(got), len(want))
		}
	}
}

func TestAtOnce(t *testing.T) { // P15.6, W4
	m := made(158)
	left, doubts := 0, 0
	for range 1200 {
		p, text := pick(m, m.fine, m.deep)(8), m.text(12)
		x, told := start(t, p), ""
		for _, piece := range m.cut(text) {
			// The doubt of each, which is there if anything is left, is held against the rules here.
			told += x.put(t, piece)
		}
		for range 8 {
			more := m.text(6)
			if m.Intn(3) == 0 {
				b := make([]byte, m.Intn(6))
				m.Read(b)
				more = string(b)
			}
			if want, _ := pass.Run(p, text+more); !strings.HasPrefix(want, told) {
				t.Fatalf("%s: %q was told of %q; with %q it is %q", brief(p), told, text, more, want)
			}
		}
		if !x.slow.left() {
			continue
		}
		left++
		// With the doubt behind it a stream goes on, and so does one that ends here: the steps are two, and often the results.
		s, _ := x.Doubt()
		one, other := x.clone(), x.clone()
		if one.put(t, s)+one.close(t) != other.close(t)+s {
			doubts++
		}
	}
	if left < 400 || doubts < 50 {
		t.Errorf("%d with something left, %d with another end: the passes are too tame or too wild", left, doubts)
	}
}

// wanted is the count of units that decide a step.
func wanted(p api.Pass) int {
	most := 0
	for _, r := range p.Rules {
		n := len(r.Key) + len(r.Post)
		if r.End {
			n++
		}
		most = max(most, n)
	}
	return most
}

func TestHeldAtMost(t *testing.T) { // P15.7
	m := made(159)
	for range 1500 {
		p := pick(m, m.fine, m.deep)(8)
		most := max(3, 4*wanted(p)-1)
		x := begin(t, p)
		for _, piece := range m.cut(m.text(60)) {
			if x.Put([]byte(piece)); x.Held() > most {
				t.Fatalf("%s: %d held, more than %d", brief(p), x.Held(), most)
			}
		}
	}
}

// As much is held as may be, and no more.
func TestHeldAsMuch(t *testing.T) { // P15.7
	wide := of(0x10000, maxRune)
	puts(t, begin(t, api.Pass{}), put{"\xF0\x90\x80", "", 3}, put{"\x80", "\U00010000", 0})
	for n := 1; n <= 16; n++ {
		r := api.Rule{Key: slices.Repeat(row(wide), min(n, 8)), Post: slices.Repeat(row(wide), n-min(n, 8)), Result: pieces(unit('x')), Cursor: 1}
		text := strings.Repeat("\U0010FFFF", n)
		x := begin(t, rules(r))
		puts(t, x, put{text[:4*n-1], "", 4*n - 1})
		behind := 0
		if n > 8 {
			// What stands behind the key waits for as much again.
			behind = 4 * (n - 8)
		}
		puts(t, x, put{text[4*n-1:], "x", behind})
		r.End = true
		puts(t, begin(t, rules(r)), put{text, "", 4 * n})
	}
	// With the end, one more unit is waited for, whose first byte is enough.
	r := api.Rule{Key: slices.Repeat(row(wide), 8), Post: slices.Repeat(row(wide), 8), End: true}
	text := strings.Repeat("\U0010FFFF", 17)
	x := begin(t, rules(r))
	puts(t, x, put{text[:64], "", 64}, put{text[64:65], text[:4], 61}, put{text[65:67], "", 63}, put{text[67:], "", 64})
	closes(t, x, text[36:])
}

// Many streams to which much came are small.
func TestWhatIsKept(t *testing.T) { // P15.7
	p := read(t, "a > x ; ab > y ; yyyyyyyy { c > | aa")
	piece := []byte(strings.Repeat("abcaaé€c", 4000))
	var kept []*stream.Stream
	before := inUse()
	for range 30 {
		x := begin(t, p)
		x.Put(piece)
		x.Put(append(piece, "\xE2\x82"...))
		kept = append(kept, x, x.Clone())
	}
	// To keep the text, or what became of it, would take ten times as much.
	if grown := inUse() - before; grown > 30*8000 {
		t.Errorf("%d bytes are kept", grown)
	}
	for _, x := range kept {
		closes(t, x, "\xE2\x82")
	}
}

func inUse() int {
	var s runtime.MemStats
	runtime.GC()
	runtime.GC()
	runtime.ReadMemStats(&s)
	return int(s.HeapAlloc)
}

// A piece that is told need not be the bytes of whole runes.
func TestToldPieces(t *testing.T) { // P15.8
	goes(t, "a > ", "", put{"\xE2a\x82", "\xE2\x82", 0}, put{"\xAC", "\xAC", 0})
	goes(t, `a > \b{E2} ; b > \b{82}\b{AC}`, "", put{"a", "\xE2", 0}, put{"b", "\x82\xAC", 0}, put{"ab", "€", 0})
	goes(t, `€ > \b{E2} ; a > `, "", put{"\xE2\x82", "", 2}, put{"\xACa\x82", "\xE2\x82", 0}, put{"a", "", 0}, put{"\xAC", "\xAC", 0})
	m := made(160)
	apart := 0
	for range 1500 {
		p, text := m.fine(8), m.text(20)
		x, told := begin(t, p), ""
		want, _ := pass.Run(p, text)
		for _, piece := range m.cut(text) {
			s := string(x.Put([]byte(piece)))
			if r, n := utf8.DecodeLastRuneInString(told); told != "" && s != "" && r == utf8.RuneError && n == 1 && len(unitsByWords(told))+len(unitsByWords(s)) > len(unitsByWords(told+s)) {
				apart++
			}
			told += s
		}
		if told += string(x.Close()); told != want {
			t.Fatalf("%s over %q: %q, not %q", brief(p), text, told, want)
		}
	}
	if apart < 20 {
		t.Errorf("%d runes came apart: the passes are too tame", apart)
	}
}
