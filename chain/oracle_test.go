package chain_test

import (
	"fmt"
	"math"
	"math/rand"
	"slices"
	"testing"
	"unicode/utf8"

	"respell/api"
	"respell/chain"
	"respell/pass"
	"respell/trace"
	"respell/weigh"
)

// What the document says, worked out anew.

func has(s api.Set, u int) bool {
	return slices.ContainsFunc(s, func(r api.Range) bool { return r.Lo <= u && u <= r.Hi })
}

func bytesOf(l ...int) string {
	var b []byte
	for _, u := range l {
		if u >= 0x110000 {
			b = append(b, byte(u-0x110000))
		} else {
			b = utf8.AppendRune(b, rune(u))
		}
	}
	return string(b)
}

func unitsByWords(s string) []int {
	var l []int
	for at := 0; at < len(s); {
		r, n := utf8.DecodeRuneInString(s[at:])
		u := int(r)
		if r == utf8.RuneError && n == 1 {
			u = 0x110000 + int(s[at])
		}
		l, at = append(l, u), at+n
	}
	return l
}

func standsAt(l []int, sets []api.Set) bool {
	if len(l) < len(sets) {
		return false
	}
	for i, s := range sets {
		if !has(s, l[i]) {
			return false
		}
	}
	return true
}

func fitsByWords(r api.Rule, done, left []int) bool {
	ahead := len(done) - len(r.Ante)
	if ahead < 0 || r.Begin && ahead > 0 || !standsAt(done[ahead:], r.Ante) || !standsAt(left, r.Key) {
		return false
	}
	behind := left[len(r.Key):]
	return standsAt(behind, r.Post) && (!r.End || len(behind) == len(r.Post))
}

// nth is the unit of a set with so many below it; below is the way back.
func nth(s api.Set, n int) int {
	for _, r := range s {
		if n <= r.Hi-r.Lo {
			return r.Lo + n
		}
		n -= r.Hi - r.Lo + 1
	}
	return -1
}

func below(s api.Set, u int) int {
	n := 0
	for _, r := range s {
		if u <= r.Hi {
			return n + u - r.Lo
		}
		n += r.Hi - r.Lo + 1
	}
	return -1
}

func writesByWords(r api.Rule, key []int) (done, back []int) {
	var l []int
	for _, p := range r.Result {
		switch p.Kind {
		case api.PUnit:
			l = append(l, p.Unit)
		case api.PCopy:
			l = append(l, key[p.Key])
		case api.PPair:
			l = append(l, nth(p.To, below(r.Key[p.Key], key[p.Key])))
		}
	}
	return l[:r.Cursor:r.Cursor], l[r.Cursor:]
}

// border is a place of a source and one of its result between which a clean moment of a run stands.
type border struct{ s, r int }

// passByWords is what a pass makes of a text, however long that is, and the borders of its blocks.
func passByWords(p api.Pass, s string) (string, []border) {
	var done, back []int
	left := unitsByWords(s)
	var here border
	met := []border{here}
	for len(back)+len(left) > 0 {
		// No rule sees more than these, and whether there are more.
		near := slices.Concat(back, left[:min(len(left), 17)])
		best, took := -1, 1
		for n, r := range p.Rules {
			if fitsByWords(r, done, near) && (best < 0 || len(r.Key) > took) {
				best, took = n, len(r.Key)
			}
		}
		laid, again := near[:1], []int(nil)
		if best >= 0 {
			laid, again = writesByWords(p.Rules[best], near[:took])
		}
		if n := took - len(back); n > 0 {
			here.s += len(bytesOf(left[:n]...))
			left = left[n:]
			back = nil
		} else {
			back = back[took:]
		}
		back = slices.Concat(again, back)
		done = append(done, laid...)
		here.r += len(bytesOf(laid...))
		if len(back) == 0 {
			met = append(met, here)
		}
	}
	return bytesOf(done...), met
}

// throughByWords joins the borders of two runs.
func throughByWords(a, b []border) []border {
	to := map[int]int{}
	for _, x := range b {
		to[x.s] = x.r
	}
	var l []border
	for _, x := range a {
		if r, is := to[x.r]; is {
			l = append(l, border{x.s, r})
		}
	}
	return l
}

func blocksByWords(l []border) []api.Block {
	var out []api.Block
	for n := 1; n < len(l); n++ {
		out = append(out, api.Block{S0: l[n-1].s, S1: l[n].s, R0: l[n-1].r, R1: l[n].r})
	}
	return out
}

// told is what a chain tells of a text.
type told struct {
	each   []string
	blocks []api.Block
	code   api.Errno
}

// chainByWords is what a chain of passes tells of a text, by the document's words alone.
func chainByWords(l []api.Pass, s string) told {
	var x told
	var met []border
	if len(s) > 0 {
		met = []border{{}, {len(s), len(s)}}
	}
	for n, p := range l {
		if len(s) > maxText {
			return told{code: api.ErrLong}
		}
		text, next := passByWords(p, s)
		if n == 0 {
			met = next
		} else {
			met = throughByWords(met, next)
		}
		x.each, s = append(x.each, text), text
	}
	if len(l) == 0 && len(s) > maxText {
		return told{code: api.ErrLong}
	}
	x.blocks = blocksByWords(met)
	return x
}

// chainByLayers is the same, by the layers below.
func chainByLayers(l []api.Pass, s string) told {
	if len(l) == 0 {
		return chainByWords(l, s)
	}
	var x told
	for n, p := range l {
		text, e := pass.Run(p, s)
		next, f := trace.Blocks(p, s)
		if e != api.OK || f != e {
			return told{code: e}
		}
		if n == 0 {
			x.blocks = next
		} else if x.blocks, e = trace.Through(x.blocks, next); e != api.OK {
			return told{code: e}
		}
		x.each, s = append(x.each, text), text
	}
	return x
}

// same holds what a chain of some passes tells of a text against the words, and against the layers below; it is what stands behind the last pass.
func same(t *testing.T, l []api.Pass, c *chain.Chain, s string) string {
	t.Helper()
	last, each, blocks, e := ask(t, c, s)
	for _, want := range []told{chainByWords(l, s), chainByLayers(l, s)} {
		if e != want.code || !slices.Equal(each, want.each) || !slices.Equal(blocks, want.blocks) {
			t.Fatalf("%s over %.90q: %.300q, %.200s, %d; want %.300q, %.200s, %d", brief(l), s, each, fmt.Sprint(blocks), e, want.each, fmt.Sprint(want.blocks), want.code)
		}
	}
	want := s
	switch {
	case e != api.OK:
		want = ""
	case len(each) > 0:
		want = each[len(each)-1]
	}
	if last != want {
		t.Fatalf("%s over %.90q: %.300q; want %.300q", brief(l), s, last, want)
	}
	return last
}

// ask is what a chain tells of a text: Run, Each, Blocks, and their error, which is one.
func ask(t *testing.T, c *chain.Chain, s string) (string, []string, []api.Block, api.Errno) {
	t.Helper()
	last, e := c.Run(s)
	each, f := c.Each(s)
	blocks, g := c.Blocks(s)
	if e != f || e != g {
		t.Fatalf("over %.90q: errors %d, %d, %d", s, e, f, g)
	}
	return last, each, blocks, e
}

// maker makes chains, texts and pieces, any of them. Of what a rule puts back, one in ring is a unit that may stand at its key's beginning; of what may not be at all, it makes one of wrong; 0: none.
type maker struct {
	*rand.Rand
	ring, wrong int
}

func made(seed int64) maker { return maker{rand.New(rand.NewSource(seed)), 5, 0} }

func (m maker) chance(n int) bool { return n > 0 && m.Intn(n) == 0 }

func pick[T any](m maker, l ...T) T { return l[m.Intn(len(l))] }

// crowd is units of which the strays make runes with one another, those of the crowd and others.
var crowd = []int{'a', 'b', 'c', 0xE9, 0x20AC, 0xFFFD, 0x10000, firstRaw, 0x110082, 0x110090, 0x1100A9, 0x1100AC, 0x1100C3, 0x1100E2, 0x1100EF, 0x1100F0, lastRaw}

// some is a set of n of some units.
func (m maker) some(n int, of []int) api.Set {
	var s api.Set
	for i, u := range of {
		if m.Intn(len(of)-i) >= n {
			continue
		}
		n--
		if k := len(s); k > 0 && s[k-1].Hi == u-1 {
			s[k-1].Hi = u
		} else {
			s = append(s, api.Range{Lo: u, Hi: u})
		}
	}
	return s
}

// row is one of mostly great sets, as rows of small ones fit nowhere.
func (m maker) row(n int) []api.Set {
	var l []api.Set
	for range n {
		l = append(l, pick(m, slices.Clone(all), of('a', 'c'), of(0x2000, 0x2FFF, 0x1100E2, 0x1100E2), m.some(1+m.Intn(len(crowd)), crowd), m.some(len(crowd)-3, crowd)))
	}
	return l
}

// many is a count that is mostly small, and at times the greatest one.
func (m maker) many(most int) int {
	return min(most, pick(m, 0, 0, 0, 0, 0, 1, 1, 1, 2, 2, most, m.Intn(most+1)))
}

func size(s api.Set) int {
	n := 0
	for _, r := range s {
		n += r.Hi - r.Lo + 1
	}
	return n
}

func (m maker) piece(key []api.Set, above []int) api.Piece {
	if m.chance(m.ring) {
		above = crowd
	}
	k := m.Intn(len(key))
	switch n := size(key[k]); {
	case m.Intn(3) == 0 && n <= len(above):
		return paired(k, m.some(n, above))
	case m.Intn(3) == 0:
		return again(k)
	}
	return unit(pick(m, above...))
}

// rule is one that begins with units of a stretch of the crowd, and mostly puts back what is above these.
func (m maker) rule() api.Rule {
	from := m.Intn(len(crowd) - 4)
	r := api.Rule{Begin: m.Intn(9) == 0, End: m.Intn(9) == 0, Key: row(m.some(1+m.Intn(3), crowd[from:from+3])), Ante: m.row(m.many(8)), Post: m.row(m.many(8))}
	r.Key = append(r.Key, m.row(m.many(7))...)
	for range pick(m, 0, 1, 1, 2, 3, 4) {
		r.Result = append(r.Result, m.piece(r.Key, crowd[from+3:]))
	}
	r.Cursor = pick(m, len(r.Result), m.Intn(len(r.Result)+1), m.Intn(len(r.Result)+1))
	if m.chance(3 * m.wrong) {
		r.Cursor = pick(m, -1, 99, math.MinInt, math.MaxInt)
	}
	if m.chance(3 * m.wrong) {
		r.Key[m.Intn(len(r.Key))] = pick(m, nil, of('b', 'a'), of(0xD7FF, 0xE000))
	}
	return r
}

func (m maker) pass(most int) api.Pass {
	var p api.Pass
	for range m.Intn(most + 1) {
		p.Rules = append(p.Rules, m.rule())
	}
	return p
}

// plain is a pass of rules of one unit each, which let strays come together: what a row of passes is made of that does not grow.
func (m maker) plain(most int) api.Pass {
	var p api.Pass
	for range m.Intn(most + 1) {
		r := api.Rule{Key: row(m.some(1, crowd))}
		if m.Intn(2) > 0 {
			r.Result, r.Cursor = pieces(unit(pick(m, crowd...))), 1
		}
		p.Rules = append(p.Rules, r)
	}
	return p
}

// mended is a pass that may be: rules that stand in the way are left out.
func mended(p api.Pass) api.Pass {
	for {
		n, e := weigh.Check(p)
		if e == api.OK {
			return p
		}
		p.Rules = slices.Delete(p.Rules, n, n+1)
	}
}

// fine is a pass that may be.
func (m maker) fine(most int) api.Pass { return mended(pick(m, m.pass, m.plain)(most)) }

// passes is so many that may be.
func (m maker) passes(n int) []api.Pass {
	var l []api.Pass
	for range n {
		l = append(l, m.fine(pick(m, 3, 8, 12)))
	}
	return l
}

// any is some passes that may be, of which some are none, and some as many as a chain takes.
func (m maker) any() []api.Pass {
	return m.passes(pick(m, 0, 1, 2, 2, 2, 3, 3, 4, 5, m.Intn(9), pick(m, 2, 16)))
}

// text is one with strays, some of which make a rune.
func (m maker) text(most int) string {
	var l []int
	for range m.Intn(most + 1) {
		l = append(l, pick(m, crowd...))
	}
	return bytesOf(l...)
}

// cut cuts a text into pieces, anywhere; some are empty.
func (m maker) cut(s string) []string {
	var l []string
	most := pick(m, 1, 2, 3, 8, 40)
	for len(s) > 0 {
		n := min(len(s), m.Intn(most+1))
		l, s = append(l, s[:n]), s[n:]
	}
	return l
}

// fused tells whether what stands behind a pass are not the units that it has written.
func fused(p api.Pass, s string) bool {
	steps, _ := pass.Steps(p, s)
	n := 0
	for x := range steps {
		n += x.Laid
	}
	text, _ := pass.Run(p, s)
	return len(unitsByWords(text)) != n
}

func TestChainsTellWhatTheirPassesDo(t *testing.T) { // P18.2, P18.3
	long(t)
	m := made(181)
	found := map[string]int{}
	for range 2500 {
		l := m.any()
		c := begin(t, l)
		for range 4 {
			s := m.text(pick(m, 4, 12, 12, 40))
			same(t, l, c, s)
			each, _ := c.Each(s)
			blocks, _ := c.Blocks(s)
			if len(l) > 1 {
				found["blocks"] += len(blocks)
			}
			for n, text := range each {
				if text == s {
					found["same"]++
				} else {
					found["other"]++
				}
				if n+1 < len(l) && fused(l[n], s) {
					found["fused"]++
				}
				s = text
			}
		}
	}
	if found["blocks"] < 10000 || found["same"] < 3000 || found["other"] < 5000 || found["fused"] < 400 {
		t.Errorf("%v: the passes are too tame or too wild", found)
	}
}

func TestAnyPassesAndTheirErrors(t *testing.T) { // P18.1
	long(t)
	found := map[string]int{}
	codes := map[api.Errno]int{}
	for _, m := range []maker{{rand.New(rand.NewSource(182)), 2, 0}, {rand.New(rand.NewSource(183)), 4, 9}} {
		for range 1500 {
			var l []api.Pass
			for range m.Intn(6) {
				l = append(l, m.pass(3))
			}
			n := slices.IndexFunc(l, func(p api.Pass) bool { _, e := weigh.Check(p); return e != api.OK })
			if n < 0 {
				found["fine"]++
				same(t, l, begin(t, l), m.text(6))
				continue
			}
			_, e := weigh.Check(l[n])
			codes[e]++
			found[fmt.Sprint(n)]++
			refuses(t, l, n, e)
		}
	}
	if len(codes) < 4 || found["fine"] < 300 || found["0"] < 300 || found["3"] < 50 {
		t.Errorf("the passes are too tame or too wild: %v %v", codes, found)
	}
}

// All short texts over some units, so that none is too rare to come by chance.
func TestAllShortTexts(t *testing.T) { // P18.2, P18.3, P18.4
	long(t)
	few := []string{"a", "b", "\xC3", "\xA9", "é"}
	for _, text := range []string{
		"a > ; then ; é > x", "a > | b ; b > a ; then ; a > \\b{A9} ; then ; é > ", "é > | \\b{C3}\\b{A9} ; then ; \\b{C3}\\b{A9} > x ; é > y", "a > \\b{C3} ; then ; b > \\b{A9} ; then ; é > ab",
		"^ { . > ; then ; . } $ > x ; then ; ^ { a > A", "aa > | a ; then ; é > \\b{A9}\\b{C3} ; then ; é > aa", "a { \\b{C3} > | \\b{A9} b ; b > ; then ; \\b{A9} { . > @1 @1 ; then ; aa > b",
	} {
		l := readAll(t, text)
		c := begin(t, l)
		for _, s := range rows(few, 4) {
			want := same(t, l, c, s)
			x := start(t, l, c)
			got := ""
			for i := range len(s) {
				got += x.put(t, s[i:i+1])
			}
			if got += x.close(t); got != want {
				t.Errorf("%s over %q: %q, not %q", text, s, got, want)
			}
		}
	}
}

// rows is all rows of some texts, so many at most.
func rows(few []string, most int) []string {
	l := []string{""}
	for from := 0; most > 0; most-- {
		end := len(l)
		for ; from < end; from++ {
			for _, x := range few {
				l = append(l, l[from]+x)
			}
		}
	}
	return l
}
