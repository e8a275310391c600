package stream_test

import (
	"math"
	"math/rand"
	"slices"
	"strings"
	"testing"
	"unicode/utf8"

	"respell/api"
	"respell/need"
	"respell/pass"
	"respell/stream"
	"respell/weigh"
)

// What the document says, worked out anew: all of DONE is kept, and steps that are decided are done one by one.

func has(s api.Set, u int) bool {
	return slices.ContainsFunc(s, func(r api.Range) bool { return r.Lo <= u && u <= r.Hi })
}

func bytesOf(l ...int) string {
	var b []byte
	for _, u := range l {
		if u >= 0x110000 {
			b = append(b, byte(u-0x110000))
		} else {
			b = utf8.AppendRune(b, rune(u))
		}
	}
	return string(b)
}

func unitsByWords(s string) []int {
	var l []int
	for at := 0; at < len(s); {
		r, n := utf8.DecodeRuneInString(s[at:])
		u := int(r)
		if r == utf8.RuneError && n == 1 {
			u = 0x110000 + int(s[at])
		}
		l, at = append(l, u), at+n
	}
	return l
}

func standsAt(l []int, sets []api.Set) bool {
	if len(l) < len(sets) {
		return false
	}
	for i, s := range sets {
		if !has(s, l[i]) {
			return false
		}
	}
	return true
}

func fitsByWords(r api.Rule, done, left []int) bool {
	ahead := len(done) - len(r.Ante)
	if ahead < 0 || r.Begin && ahead > 0 || !standsAt(done[ahead:], r.Ante) || !standsAt(left, r.Key) {
		return false
	}
	behind := left[len(r.Key):]
	return standsAt(behind, r.Post) && (!r.End || len(behind) == len(r.Post))
}

// nth is the unit of a set with so many below it; below is the way back.
func nth(s api.Set, n int) int {
	for _, r := range s {
		if n <= r.Hi-r.Lo {
			return r.Lo + n
		}
		n -= r.Hi - r.Lo + 1
	}
	return -1
}

func below(s api.Set, u int) int {
	n := 0
	for _, r := range s {
		if u <= r.Hi {
			return n + u - r.Lo
		}
		n += r.Hi - r.Lo + 1
	}
	return -1
}

func writesByWords(r api.Rule, key []int) (done, back []int) {
	var l []int
	for _, p := range r.Result {
		switch p.Kind {
		case api.PUnit:
			l = append(l, p.Unit)
		case api.PCopy:
			l = append(l, key[p.Key])
		case api.PPair:
			l = append(l, nth(p.To, below(r.Key[p.Key], key[p.Key])))
		}
	}
	return l[:r.Cursor:r.Cursor], l[r.Cursor:]
}

// next is a step: the rule, and the units that it takes.
type next struct {
	rule  int
	taken []int
}

func (x next) same(y next) bool { return x.rule == y.rule && slices.Equal(x.taken, y.taken) }

// slow is a stream as the words say.
type slow struct {
	pass       api.Pass
	done, back []int
	known      string
}

// step is the next one with a continuation.
func (s *slow) step(t string) next {
	left := slices.Concat(s.back, unitsByWords(s.known+t))
	best := -1
	for n, r := range s.pass.Rules {
		if fitsByWords(r, s.done, left) && (best < 0 || len(r.Key) > len(s.pass.Rules[best].Key)) {
			best = n
		}
	}
	if best >= 0 {
		return next{best, left[:len(s.pass.Rules[best].Key)]}
	}
	return next{-1, left[:min(1, len(left))]}
}

// does does a step, and tells what it lays.
func (s *slow) does(x next) string {
	if n := len(x.taken); n <= len(s.back) {
		s.back = s.back[n:]
	} else {
		s.known = s.known[len(bytesOf(x.taken[len(s.back):]...)):]
		s.back = nil
	}
	laid, back := x.taken, []int(nil)
	if x.rule >= 0 {
		laid, back = writesByWords(s.pass.Rules[x.rule], x.taken)
	}
	s.done, s.back = slices.Concat(s.done, laid), slices.Concat(back, s.back)
	return bytesOf(laid...)
}

func (s *slow) left() bool { return len(s.back)+len(s.known) > 0 }

func (s *slow) put(piece string) string {
	s.known += piece
	var told strings.Builder
	for {
		n, is := need.Decide(s.pass, s.done, s.back, s.known)
		if !is {
			return told.String()
		}
		x := s.step("")
		if x.rule != n {
			panic("need and the words are not one")
		}
		told.WriteString(s.does(x))
	}
}

func (s *slow) close() string {
	var told strings.Builder
	for s.left() {
		told.WriteString(s.does(s.step("")))
	}
	return told.String()
}

// both is a stream, and what it must be.
type both struct {
	*stream.Stream
	slow  slow
	ended bool
}

func start(t *testing.T, p api.Pass) *both {
	t.Helper()
	return &both{Stream: begin(t, p), slow: slow{pass: p}}
}

// put puts a piece to both, and holds all that the stream tells against the words.
func (x *both) put(t *testing.T, piece string) string {
	t.Helper()
	want := ""
	if !x.ended {
		want = x.slow.put(piece)
	}
	if got := x.Put([]byte(piece)); string(got) != want {
		t.Fatalf("%s: Put(%q): %q; want %q", brief(x.slow.pass), piece, got, want)
	}
	x.asks(t)
	return want
}

func (x *both) close(t *testing.T) string {
	t.Helper()
	want := ""
	if !x.ended {
		want = x.slow.close()
	}
	x.ended = true
	if got := x.Close(); string(got) != want {
		t.Fatalf("%s: Close: %q; want %q", brief(x.slow.pass), got, want)
	}
	x.asks(t)
	return want
}

// asks holds what can be asked against the words; a doubt is tried against the rules themselves.
func (x *both) asks(t *testing.T) {
	t.Helper()
	if x.Held() != len(x.slow.known) || x.Closed() != x.ended {
		t.Fatalf("%s, %q left: %d held, closed: %v", brief(x.slow.pass), x.slow.known, x.Held(), x.Closed())
	}
	s, is := x.Doubt()
	if is != x.slow.left() || !is && s != "" {
		t.Fatalf("%s, %v, %q left: %q %v", brief(x.slow.pass), x.slow.back, x.slow.known, s, is)
	}
	if is && x.slow.step(s).same(x.slow.step("")) {
		t.Fatalf("%s, %v, %q left: with %q the step is the same", brief(x.slow.pass), x.slow.back, x.slow.known, s)
	}
}

func (x *both) clone() *both {
	return &both{Stream: x.Clone(), slow: x.slow, ended: x.ended}
}

// maker makes passes, texts and pieces, any of them. Of what a rule puts back, one in ring is a unit that may stand at its key's beginning; of what may not be at all, it makes one of wrong; 0: none.
type maker struct {
	*rand.Rand
	ring, wrong int
}

func made(seed int64) maker { return maker{rand.New(rand.NewSource(seed)), 5, 0} }

func (m maker) chance(n int) bool { return n > 0 && m.Intn(n) == 0 }

func pick[T any](m maker, l ...T) T { return l[m.Intn(len(l))] }

// crowd is units of which the strays make runes with one another, those of the crowd and others.
var crowd = []int{'a', 'b', 'c', 0xE9, 0x20AC, 0xFFFD, 0x10000, firstRaw, 0x110082, 0x110090, 0x1100A9, 0x1100AC, 0x1100C3, 0x1100E2, 0x1100EF, 0x1100F0, lastRaw}

// some is a set of n of some units.
func (m maker) some(n int, of []int) api.Set {
	var s api.Set
	for i, u := range of {
		if m.Intn(len(of)-i) >= n {
			continue
		}
		n--
		if k := len(s); k > 0 && s[k-1].Hi == u-1 {
			s[k-1].Hi = u
		} else {
			s = append(s, api.Range{Lo: u, Hi: u})
		}
	}
	return s
}

// row is one of mostly great sets, as rows of small ones fit nowhere.
func (m maker) row(n int) []api.Set {
	var l []api.Set
	for range n {
		l = append(l, pick(m, slices.Clone(all), of('a', 'c'), of(0x2000, 0x2FFF, 0x1100E2, 0x1100E2), m.some(1+m.Intn(len(crowd)), crowd), m.some(len(crowd)-3, crowd)))
	}
	return l
}

// many is a count that is mostly small, and at times the greatest one.
func (m maker) many(most int) int {
	return min(most, pick(m, 0, 0, 0, 0, 0, 1, 1, 1, 2, 2, most, m.Intn(most+1)))
}

func size(s api.Set) int {
	n := 0
	for _, r := range s {
		n += r.Hi - r.Lo + 1
	}
	return n
}

func (m maker) piece(key []api.Set, above []int) api.Piece {
	if m.chance(m.ring) {
		above = crowd
	}
	k := m.Intn(len(key))
	switch n := size(key[k]); {
	case m.Intn(3) == 0 && n <= len(above):
		return paired(k, m.some(n, above))
	case m.Intn(3) == 0:
		return again(k)
	}
	return unit(pick(m, above...))
}

// rule is one that begins with units of a stretch of the crowd, and mostly puts back what is above these.
func (m maker) rule() api.Rule {
	from := m.Intn(len(crowd) - 4)
	r := api.Rule{Begin: m.Intn(9) == 0, End: m.Intn(9) == 0, Key: row(m.some(1+m.Intn(3), crowd[from:from+3])), Ante: m.row(m.many(8)), Post: m.row(m.many(8))}
	r.Key = append(r.Key, m.row(m.many(7))...)
	for range m.Intn(5) {
		r.Result = append(r.Result, m.piece(r.Key, crowd[from+3:]))
	}
	r.Cursor = pick(m, len(r.Result), m.Intn(len(r.Result)+1), m.Intn(len(r.Result)+1))
	if m.chance(3 * m.wrong) {
		r.Cursor = pick(m, -1, 99, math.MinInt, math.MaxInt)
	}
	if m.chance(3 * m.wrong) {
		r.Key[m.Intn(len(r.Key))] = pick(m, nil, of('b', 'a'), of(0xD7FF, 0xE000))
	}
	return r
}

func (m maker) pass(most int) api.Pass {
	var p api.Pass
	for range m.Intn(most + 1) {
		p.Rules = append(p.Rules, m.rule())
	}
	return p
}

// mended is a pass that may be: rules that stand in the way are left out.
func mended(p api.Pass) api.Pass {
	for {
		n, e := weigh.Check(p)
		if e == api.OK {
			return p
		}
		p.Rules = slices.Delete(p.Rules, n, n+1)
	}
}

// fine is a pass that may be.
func (m maker) fine(most int) api.Pass { return mended(m.pass(most)) }

// deep is a pass that may be, some of whose rules put back what others begin with, which want more than that.
func (m maker) deep(most int) api.Pass {
	p := m.fine(most)
	for range m.Intn(most + 1) {
		from := m.Intn(len(crowd) - 1)
		first := api.Rule{Key: row(m.some(1, crowd[from:from+1])), Result: pieces(unit(pick(m, crowd...)))}
		second := api.Rule{Result: pieces(unit(pick(m, crowd...)))}
		for range 1 + m.Intn(3) {
			u := from + 1 + m.Intn(len(crowd)-from-1)
			first.Result = append(first.Result, unit(crowd[u]))
			second.Key = append(second.Key, m.some(1, crowd[u:u+1]))
		}
		second.Key = append(second.Key, m.row(1+m.Intn(3))...)
		first.Cursor, second.Cursor = m.Intn(2), m.Intn(2)
		p.Rules = append(p.Rules, first, second)
	}
	return mended(p)
}

// text is one with strays, some of which make a rune.
func (m maker) text(most int) string {
	var l []int
	for range m.Intn(most + 1) {
		l = append(l, pick(m, crowd...))
	}
	return bytesOf(l...)
}

// cut cuts a text into pieces, anywhere; some are empty.
func (m maker) cut(s string) []string {
	var l []string
	most := pick(m, 1, 2, 3, 8, 40)
	for len(s) > 0 {
		n := min(len(s), m.Intn(most+1))
		l, s = append(l, s[:n]), s[n:]
	}
	return l
}

func TestPutsAsTheWordsSay(t *testing.T) { // P15.2 to P15.5
	m := made(151)
	found := map[string]int{}
	for range 2500 {
		p := pick(m, m.fine, m.deep)(pick(m, 3, 6, 12))
		for range 3 {
			x, text, told := start(t, p), m.text(20), ""
			for _, piece := range m.cut(text) {
				s := x.put(t, piece)
				told += s
				found["told"] += min(1, len(s))
				found["held"] += min(1, x.Held())
				if len(x.slow.back) > 0 {
					found["back"]++
				}
				if len(x.slow.back) > 0 && x.Held() == 0 {
					found["back alone"]++
				}
			}
			s := x.close(t)
			found["told at the end"] += min(1, len(s))
			if want, e := pass.Run(p, text); told+s != want || e != api.OK {
				t.Fatalf("%s over %q: %q, not %q", brief(p), text, told+s, want)
			}
		}
	}
	if found["told"] < 15000 || found["held"] < 8000 || found["back"] < 2000 || found["back alone"] < 800 || found["told at the end"] < 2000 {
		t.Errorf("%v: the passes are too tame or too wild", found)
	}
}

// All short texts over some units, each of their bytes a piece, so that none is too rare to come by chance.
func TestAllShortTexts(t *testing.T) { // P15.2 to P15.5
	few := []string{"a", "b", "\xC3", "\xA9", "é"}
	for _, text := range []string{
		"", "a > ", "a > | b ; b > a", "ab > ba | ; é > | \\b{C3}\\b{A9}", "\\b{C3}\\b{A9} > x", "a { \\b{C3} > | \\b{A9} b ; b > ", "^ { . > ; b } $ > aa", "aa > | b ; [ab] } é > @1:[\\b{C3}\\b{A9}]", ".. > @2 @1",
		"a > | \\b{C3} ; \\b{C3}\\b{A9} > x ; é > y", "a . > @2 | b ; b { b > é", "a } b > x ; a } é > y ; a } $ > z", "abab > x ; ab > y ; a > | \\b{C3}",
	} {
		p := read(t, text)
		for _, s := range texts(few, 4) {
			x, told := start(t, p), ""
			for i := range len(s) {
				told += x.put(t, s[i:i+1])
			}
			told += x.close(t)
			if want, _ := pass.Run(p, s); told != want {
				t.Errorf("%s over %q: %q, not %q", text, s, told, want)
			}
		}
	}
}

// texts is all rows of some texts, so many at most.
func texts(few []string, most int) []string {
	l := []string{""}
	for from := 0; most > 0; most-- {
		end := len(l)
		for ; from < end; from++ {
			for _, x := range few {
				l = append(l, l[from]+x)
			}
		}
	}
	return l
}

func TestAnyPassesAndTheirErrors(t *testing.T) { // P15.1
	codes := map[api.Errno]int{}
	for _, m := range []maker{{rand.New(rand.NewSource(152)), 2, 0}, {rand.New(rand.NewSource(153)), 2, 4}} {
		for range 1500 {
			p := m.pass(6)
			_, code := weigh.Check(p)
			codes[code]++
			if code != api.OK {
				refuses(t, p, code)
				continue
			}
			x := start(t, p)
			x.put(t, m.text(6))
			x.close(t)
		}
	}
	if len(codes) < 5 || codes[api.OK] < 300 || codes[api.ErrWeighBack] < 50 || codes[api.ErrWeighMost] < 50 {
		t.Errorf("the passes are too tame or too wild: %v", codes)
	}
}

func TestClonesAsTheWordsSay(t *testing.T) { // R7
	m := made(154)
	for range 500 {
		p := pick(m, m.fine, m.deep)(8)
		all := []*both{start(t, p)}
		for range 30 {
			x := pick(m, all...)
			switch m.Intn(8) {
			case 0:
				if x.close(t); m.Intn(2) == 0 {
					x.close(t)
				}
			case 1, 2:
				all = append(all, x.clone())
			default:
				x.put(t, pick(m, m.text(3), m.text(3), "\xE2", "\x82", "\xAC", "\xC3"))
			}
			for _, y := range all {
				y.asks(t)
			}
		}
	}
}

func TestByteForByte(t *testing.T) { // P15.2, W1
	m := made(155)
	for _, text := range []string{"", "\\x{E000} > x", "\\x{E000} a > x ; \\x{E000} { a > y"} {
		p := read(t, text)
		for n := range 500 {
			b := make([]byte, n%50)
			m.Read(b)
			x, told := start(t, p), ""
			for _, piece := range m.cut(string(b)) {
				told += x.put(t, piece)
			}
			if told += x.close(t); told != string(b) {
				t.Errorf("%q: %q", b, told)
			}
		}
	}
}
