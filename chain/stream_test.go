package chain_test

import (
	"slices"
	"strings"
	"testing"

	"respell/api"
	"respell/chain"
	"respell/stream"
)

// put is a piece that comes, and what is told and held then.
type put struct {
	piece, told string
	held        []int
}

func puts(t *testing.T, x *chain.Stream, l ...put) {
	t.Helper()
	for n, p := range l {
		if got := x.Put([]byte(p.piece)); string(got) != p.told {
			t.Errorf("%d, Put(%.60q): %.200q; want %.200q", n, p.piece, got, p.told)
		}
		if got := x.Held(); !slices.Equal(got, p.held) {
			t.Errorf("%d, Put(%.60q): held %v; want %v", n, p.piece, got, p.held)
		}
	}
}

func closes(t *testing.T, x *chain.Stream, told string, held ...int) {
	t.Helper()
	if got := x.Close(); string(got) != told {
		t.Errorf("Close: %.200q; want %.200q", got, told)
	}
	if got := x.Held(); !slices.Equal(got, held) {
		t.Errorf("Close: held %v; want %v", got, held)
	}
}

// both is a stream of a chain, and what it must be: a stream of each pass, each handing on to the next one.
type both struct {
	*chain.Stream
	passes []api.Pass
	hands  []*stream.Stream
	ended  bool
	came   string
	told   string
}

func start(t *testing.T, l []api.Pass, c *chain.Chain) *both {
	t.Helper()
	x := &both{Stream: c.Stream(), passes: l}
	for _, p := range l {
		h, e := stream.New(p)
		if e != api.OK {
			t.Fatalf("%s: %d", brief(p), e)
		}
		x.hands = append(x.hands, h)
	}
	x.asks(t)
	return x
}

func (x *both) putByWords(piece string) string {
	if x.ended {
		return ""
	}
	x.came += piece
	for _, h := range x.hands {
		piece = string(h.Put([]byte(piece)))
	}
	x.told += piece
	return piece
}

func (x *both) closeByWords() string {
	if x.ended {
		return ""
	}
	x.ended = true
	last := ""
	for n, h := range x.hands {
		told := ""
		if n > 0 {
			told = string(h.Put([]byte(last)))
		}
		last = told + string(h.Close())
	}
	x.told += last
	return last
}

// put puts a piece to both, and holds all that the stream tells against the words.
func (x *both) put(t *testing.T, piece string) string {
	t.Helper()
	want := x.putByWords(piece)
	if got := x.Put([]byte(piece)); string(got) != want {
		t.Fatalf("%s: Put(%.90q): %.200q; want %.200q", brief(x.passes), piece, got, want)
	}
	x.asks(t)
	return want
}

// close does so with a Close. All that was told, too, is held against what the passes make of all that came.
func (x *both) close(t *testing.T) string {
	t.Helper()
	want := x.closeByWords()
	if got := x.Close(); string(got) != want {
		t.Fatalf("%s: Close: %.200q; want %.200q", brief(x.passes), got, want)
	}
	x.asks(t)
	if made := through(x.passes, x.came); made != x.told {
		t.Fatalf("%s over %.90q: %.200q; want %.200q", brief(x.passes), x.came, x.told, made)
	}
	return want
}

func (x *both) asks(t *testing.T) {
	t.Helper()
	var want []int
	for _, h := range x.hands {
		want = append(want, h.Held())
	}
	if got := x.Held(); !slices.Equal(got, want) {
		t.Fatalf("%s behind %.90q: held %v; want %v", brief(x.passes), x.came, got, want)
	}
}

func (x *both) clone() *both {
	y := *x
	y.Stream, y.hands = x.Clone(), nil
	for _, h := range x.hands {
		y.hands = append(y.hands, h.Clone())
	}
	return &y
}

// through is what passes make of a text, one behind the other, however long it becomes.
func through(l []api.Pass, s string) string {
	for _, p := range l {
		s, _ = passByWords(p, s)
	}
	return s
}

// toldOf is what a stream tells of pieces, and then of its end.
func toldOf(x *chain.Stream, pieces ...string) string {
	var b []byte
	for _, s := range pieces {
		b = append(b, x.Put([]byte(s))...)
	}
	return string(append(b, x.Close()...))
}

func TestStreamOfNoPass(t *testing.T) { // P18.4, P18.5, W1
	for _, l := range [][]api.Pass{nil, {}} {
		x := begin(t, l).Stream()
		puts(t, x, put{"", "", nil}, put{"a", "a", nil}, put{"\xE2", "\xE2", nil}, put{"\x82", "\x82", nil}, put{"é\xFF", "é\xFF", nil})
		y := x.Clone()
		closes(t, x, "")
		puts(t, x, put{"a", "", nil}, put{"", "", nil})
		closes(t, x, "")
		z := x.Clone()
		puts(t, z, put{"a", "", nil})
		closes(t, z, "")
		puts(t, y, put{"a", "a", nil})
		closes(t, y, "")
	}
}

func TestStreamOfOnePass(t *testing.T) { // P18.4, P18.5, W2: the table of chapter 15
	c := chained(t, "a > x ; ab > y")
	x := c.Stream()
	puts(t, x, put{"a", "", []int{1}}, put{"b", "y", []int{0}}, put{"ab", "y", []int{0}}, put{"ac", "xc", []int{0}})
	closes(t, x, "", 0)
	x = c.Stream()
	puts(t, x, put{"a", "", []int{1}})
	closes(t, x, "x", 0)
	puts(t, x, put{"a", "", []int{0}})
	closes(t, x, "", 0)
	x = begin(t, make([]api.Pass, 1)).Stream()
	puts(t, x, put{"\xE2", "", []int{1}}, put{"\x82", "", []int{2}}, put{"a", "\xE2\x82a", []int{0}})
	closes(t, x, "", 0)
	x = chained(t, "ab > b | c ; cd > e").Stream()
	puts(t, x, put{"ab", "b", []int{0}}, put{"d", "e", []int{0}})
	x = chained(t, "a > ").Stream()
	puts(t, x, put{"\xE2a\x82", "\xE2\x82", []int{0}}, put{"\xAC", "\xAC", []int{0}})
}

func TestStreamOfMorePasses(t *testing.T) { // P18.4, P18.5
	// Each pass holds back what hangs on what comes.
	x := chained(t, "ab > c ; then ; cd > e ; then ; ef > g").Stream()
	puts(t, x, put{"a", "", []int{1, 0, 0}}, put{"b", "", []int{0, 1, 0}}, put{"d", "", []int{0, 0, 1}}, put{"f", "g", []int{0, 0, 0}}, put{"abd", "", []int{0, 0, 1}}, put{"ab", "", []int{0, 1, 1}}, put{"a", "", []int{1, 1, 1}}, put{"", "", []int{1, 1, 1}})
	closes(t, x, "eca", 0, 0, 0)
	// What the first one tells to a Close makes the second one tell at its Put, and that one's Close the rest.
	x = chained(t, "a > x ; ab > y ; then ; x > p ; xx > q ; y > r").Stream()
	puts(t, x, put{"aa", "", []int{1, 1}})
	closes(t, x, "q", 0, 0)
	x = chained(t, "a > x ; ab > y ; then ; x > p ; xx > q").Stream()
	puts(t, x, put{"aaa", "q", []int{1, 0}})
	closes(t, x, "p", 0, 0)
	// All passes hold until the end.
	x = chained(t, ". > @1 ; .. } $ > ; then ; .. } $ > ! ; then ; .. } $ > ?").Stream()
	puts(t, x, put{"abcdefg", "a", []int{2, 2, 2}})
	closes(t, x, "b?", 0, 0, 0)
	x = chained(t, ". } $ > x ; then ; . } $ > y ; then ; . } $ > z").Stream()
	puts(t, x, put{"abcd", "a", []int{1, 1, 1}}, put{"é", "b", []int{2, 1, 1}})
	closes(t, x, "cdz", 0, 0, 0)
	x = begin(t, make([]api.Pass, 16)).Stream()
	held := make([]int, 16)
	held[0] = 2
	puts(t, x, put{"a\xE2\x82", "a", held})
	closes(t, x, "\xE2\x82", make([]int, 16)...)
}

func TestRuneToldInTwoPieces(t *testing.T) { // P18.4, P18.7
	const text = "a > ; then ; € > E ; \\x{10348} > h ; é > e"
	x := chained(t, text).Stream()
	puts(t, x, put{"\xE2", "", []int{1, 0}}, put{"a", "", []int{0, 1}}, put{"\x82", "", []int{0, 2}}, put{"a", "", []int{0, 2}}, put{"\xAC", "E", []int{0, 0}})
	puts(t, x, put{"\xF0a\x90", "", []int{0, 2}}, put{"a\x8D", "", []int{0, 3}}, put{"", "", []int{0, 3}}, put{"a\x88b", "hb", []int{0, 0}})
	puts(t, x, put{"\xC3a", "", []int{0, 1}}, put{"a", "", []int{0, 1}}, put{"\xA9", "e", []int{0, 0}}, put{"\xC3a", "", []int{0, 1}}, put{"b", "\xC3b", []int{0, 0}}, put{"\xC3a", "", []int{0, 1}})
	closes(t, x, "\xC3", 0, 0)
	// It comes together at the end alone.
	x = chained(t, text).Stream()
	puts(t, x, put{"\xE2a\x82a", "", []int{0, 2}})
	y := x.Clone()
	closes(t, x, "\xE2\x82", 0, 0)
	puts(t, y, put{"\xAC", "E", []int{0, 0}})
	x = chained(t, "a > ; b } $ > \\b{AC} ; then ; € > E").Stream()
	puts(t, x, put{"\xE2a\x82ab", "", []int{1, 2}})
	closes(t, x, "E", 0, 0)
	// Over three passes, the second of which tells it byte by byte, too.
	x = chained(t, "a > ; then ; b > ; then ; € > E").Stream()
	puts(t, x, put{"\xE2a", "", []int{0, 1, 0}}, put{"b", "", []int{0, 0, 1}}, put{"\x82b", "", []int{0, 0, 2}}, put{"\xAC", "E", []int{0, 0, 0}})
}

// Every way to cut some texts, with empty pieces between.
func TestAllCuts(t *testing.T) { // P18.4, P18.7, W4
	for _, text := range []string{"", "a > ; then ; € > E", "a > x ; ab > y ; aba > z ; then ; xy > ; yx > é", "é > | \\b{C3}\\b{A9} ; then ; é > aa ; then ; aa > ", "^ { a > ; then ; ^ { b > ; then ; . } $ > ; then ; .. > @2 @1", "a > \\b{E2} ; b > \\b{82} ; then ; \\b{E2} \\b{82} } \\b{AC} > ! ; € > E"} {
		l := readAll(t, text)
		c := begin(t, l)
		for _, s := range []string{"", "\xE2a\x82\xAC", "abaabéa", "é\xC3a\xA9é", "bab\xACab\xAC", "a€b\xE2ab"} {
			want := same(t, l, c, s)
			for cuts := range 1 << max(0, len(s)-1) {
				x := start(t, l, c)
				from := 0
				for at := 1; at <= len(s); at++ {
					if at == len(s) || cuts&(1<<(at-1)) != 0 {
						x.put(t, s[from:at])
						from = at
						if at%3 == 0 {
							x.put(t, "")
						}
					}
				}
				x.close(t)
				if x.told != want {
					t.Fatalf("%s over %q, cut %b: %q, not %q", text, s, cuts, x.told, want)
				}
			}
		}
	}
}

func TestPutsAsTheWordsSay(t *testing.T) { // P18.4, P18.5, P18.7
	long(t)
	m := made(191)
	found := map[string]int{}
	for range 800 {
		l := m.any()
		c := begin(t, l)
		for range 3 {
			x := start(t, l, c)
			for _, piece := range m.cut(m.text(pick(m, 4, 16, 16, 40))) {
				found["told"] += min(1, len(x.put(t, piece)))
				held := x.Held()
				for n, h := range held {
					if h > 0 && n > 0 {
						found["held behind the first"]++
					}
				}
			}
			found["told at the end"] += min(1, len(x.close(t)))
		}
	}
	if found["told"] < 3000 || found["held behind the first"] < 3000 || found["told at the end"] < 700 {
		t.Errorf("%v: the passes are too tame or too wild", found)
	}
}

// Calls in any order, on streams of one chain and their clones.
func TestAnyOrder(t *testing.T) { // P18.4, P18.5, R7
	long(t)
	m := made(192)
	for range 250 {
		l := m.passes(pick(m, 0, 1, 2, 2, 3, 4, 16))
		c := begin(t, l)
		all := []*both{start(t, l, c), start(t, l, c)}
		for range 30 {
			x := pick(m, all...)
			switch m.Intn(9) {
			case 0:
				if x.close(t); m.Intn(2) == 0 {
					x.close(t)
				}
			case 1, 2:
				all = append(all, x.clone())
			case 3:
				all = append(all, start(t, l, c))
			default:
				x.put(t, pick(m, m.text(3), m.text(3), "", "\xE2", "\x82", "\xAC", "\xC3"))
			}
			for _, y := range all {
				y.asks(t)
			}
			if m.Intn(8) == 0 {
				same(t, l, c, m.text(4))
			}
		}
		for _, x := range all {
			x.close(t)
		}
	}
}

func TestBehindAClose(t *testing.T) { // P18.4, P18.5
	for _, text := range []string{"a > b", "a > ; then ; € > E", ". } $ > x ; then ; xx > y ; then ; .. > z"} {
		l := readAll(t, text)
		c := begin(t, l)
		for _, s := range []string{"", "a", "ab\xE2a\x82", "xx"} {
			x := start(t, l, c)
			x.put(t, s)
			x.close(t)
			none := make([]int, len(l))
			for range 3 {
				puts(t, x.Stream, put{"\xAC", "", none}, put{"a", "", none}, put{"", "", none}, put{strings.Repeat("a", 2*maxText), "", none})
				closes(t, x.Stream, "", none...)
				y := x.Clone()
				puts(t, y, put{"a", "", none})
				closes(t, y, "", none...)
			}
			// Others of the chain go on.
			x = start(t, l, c)
			x.put(t, "ab")
			x.close(t)
		}
	}
}

func TestClosedAtOnce(t *testing.T) { // P18.4
	for _, text := range []string{"", "a > b", "a > ; then ; ^ { b > c"} {
		l := readAll(t, text)
		x := begin(t, l).Stream()
		closes(t, x, "", make([]int, len(l))...)
		puts(t, x, put{"a", "", make([]int, len(l))})
	}
}

func TestTwoSideBySide(t *testing.T) { // P18.4: a chain may have many
	c := chained(t, "^ { a > A ; ab > x ; then ; ^ { A > B ; xx > y")
	x, y := c.Stream(), c.Stream()
	puts(t, x, put{"a", "", []int{1, 0}})
	puts(t, y, put{"ab", "", []int{0, 1}}, put{"ab", "y", []int{0, 0}})
	puts(t, x, put{"a", "B", []int{1, 0}})
	puts(t, y, put{"a", "", []int{1, 0}})
	z := x.Clone()
	puts(t, x, put{"b", "", []int{0, 1}})
	closes(t, y, "a", 0, 0)
	puts(t, z, put{"c", "ac", []int{0, 0}})
	closes(t, x, "x", 0, 0)
	closes(t, z, "", 0, 0)
	// One that begins behind all that begins anew.
	puts(t, c.Stream(), put{"ac", "Bc", []int{0, 0}})
}

// What comes, and what is handed on, may be as long as it likes.
func TestLongTexts(t *testing.T) { // P18.4, P18.7, R8
	long(t)
	m := made(193)
	for _, text := range []string{"", "a > ", "a > bb ; then ; bb > c ; b > d ; then ; cc > ", "a > \\b{C3} ; b > \\b{A9} ; then ; é > aaa ; then ; aa > b", "a > | bb ; b > xyz ; then ; z { x > | é ; then ; é > ; y } $ > !"} {
		l := readAll(t, text)
		c := begin(t, l)
		for _, s := range []string{strings.Repeat("a", maxText+1), strings.Repeat("aaab\xE2a\x82\xAC", maxText/4)} {
			want := through(l, s)
			if got := toldOf(c.Stream(), s); got != want {
				t.Errorf("%s: %d bytes, not %d", text, len(got), len(want))
			}
			if got := toldOf(c.Stream(), s[:maxText-1], s[maxText-1:maxText], s[maxText:]); got != want {
				t.Errorf("%s: %d bytes, not %d", text, len(got), len(want))
			}
			if got := toldOf(c.Stream(), m.cut(s)...); got != want {
				t.Errorf("%s: %d bytes, not %d", text, len(got), len(want))
			}
			tooLong(t, c, s)
		}
	}
	// The text is short, and what is handed on is not.
	l := readAll(t, "a > bbbbbbbbbbbbbbbb ; then ; b > cccccccccccccccc ; then ; cc > ")
	c := begin(t, l)
	tooLong(t, c, strings.Repeat("a", 65))
	if got := toldOf(c.Stream(), strings.Repeat("a", 300), "x"); got != "x" {
		t.Errorf("%.60q", got)
	}
}

func TestDrawnLongTexts(t *testing.T) { // P18.7, W4
	long(t)
	m := made(194)
	for range 12 {
		l := m.passes(1 + m.Intn(3))
		c := begin(t, l)
		s := ""
		for len(s) < maxText+2000 {
			s += m.text(500)
		}
		want := through(l, s)
		if got := toldOf(c.Stream(), s); got != want {
			t.Errorf("%s: %d bytes, not %d", brief(l), len(got), len(want))
		}
		if got := toldOf(c.Stream(), m.cut(s)...); got != want {
			t.Errorf("%s: %d bytes, not %d", brief(l), len(got), len(want))
		}
		same(t, l, c, s[:maxText])
		tooLong(t, c, s)
	}
}
