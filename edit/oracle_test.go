package edit_test

import (
	"math"
	"math/rand"
	"slices"
	"testing"
	"unicode/utf8"

	"respell/api"
	"respell/edit"
	"respell/need"
	"respell/weigh"
)

// What the document says, worked out anew: both runs as a whole, with all their states, and all of DONE in each.

func has(s api.Set, u int) bool {
	return slices.ContainsFunc(s, func(r api.Range) bool { return r.Lo <= u && u <= r.Hi })
}

func bytesOf(l ...int) string {
	var b []byte
	for _, u := range l {
		if u >= 0x110000 {
			b = append(b, byte(u-0x110000))
		} else {
			b = utf8.AppendRune(b, rune(u))
		}
	}
	return string(b)
}

func unitsByWords(s string) []int {
	var l []int
	for at := 0; at < len(s); {
		r, n := utf8.DecodeRuneInString(s[at:])
		u := int(r)
		if r == utf8.RuneError && n == 1 {
			u = 0x110000 + int(s[at])
		}
		l, at = append(l, u), at+n
	}
	return l
}

func standsAt(l []int, sets []api.Set) bool {
	if len(l) < len(sets) {
		return false
	}
	for i, s := range sets {
		if !has(s, l[i]) {
			return false
		}
	}
	return true
}

func fitsByWords(r api.Rule, done, left []int) bool {
	ahead := len(done) - len(r.Ante)
	if ahead < 0 || r.Begin && ahead > 0 || !standsAt(done[ahead:], r.Ante) || !standsAt(left, r.Key) {
		return false
	}
	behind := left[len(r.Key):]
	return standsAt(behind, r.Post) && (!r.End || len(behind) == len(r.Post))
}

// nth is the unit of a set with so many below it; below is the way back.
func nth(s api.Set, n int) int {
	for _, r := range s {
		if n <= r.Hi-r.Lo {
			return r.Lo + n
		}
		n -= r.Hi - r.Lo + 1
	}
	return -1
}

func below(s api.Set, u int) int {
	n := 0
	for _, r := range s {
		if u <= r.Hi {
			return n + u - r.Lo
		}
		n += r.Hi - r.Lo + 1
	}
	return -1
}

func writesByWords(r api.Rule, key []int) (done, back []int) {
	var l []int
	for _, p := range r.Result {
		switch p.Kind {
		case api.PUnit:
			l = append(l, p.Unit)
		case api.PCopy:
			l = append(l, key[p.Key])
		case api.PPair:
			l = append(l, nth(p.To, below(r.Key[p.Key], key[p.Key])))
		}
	}
	return l[:r.Cursor:r.Cursor], l[r.Cursor:]
}

// moment is a state of a run, and the step behind it (none behind the last one).
type moment struct {
	done, back []int
	rest       string // the bytes of the source that no step has taken
	rule       int
	took       []int
}

func (m moment) clean() bool { return len(m.back) == 0 }

// runByWords is the states of a run.
func runByWords(p api.Pass, text string) []moment {
	m := moment{rest: text}
	var l []moment
	for len(m.back)+len(m.rest) > 0 {
		left := slices.Concat(m.back, unitsByWords(m.rest))
		m.rule = -1
		for n, r := range p.Rules {
			if fitsByWords(r, m.done, left) && (m.rule < 0 || len(r.Key) > len(p.Rules[m.rule].Key)) {
				m.rule = n
			}
		}
		m.took = left[:1]
		laid, back := m.took, []int(nil)
		if m.rule >= 0 {
			m.took = left[:len(p.Rules[m.rule].Key)]
			laid, back = writesByWords(p.Rules[m.rule], m.took)
		}
		l = append(l, m)
		old := min(len(m.took), len(m.back))
		m = moment{done: slices.Concat(m.done, laid), back: slices.Concat(back, m.back[old:]), rest: m.rest[len(bytesOf(m.took[old:]...)):]}
	}
	return append(l, m)
}

func resultByWords(l []moment) string { return bytesOf(l[len(l)-1].done...) }

// tailByWords is the tail of a state.
func tailByWords(p api.Pass, m moment) []int {
	most := 0
	for _, r := range p.Rules {
		n := len(r.Ante)
		if r.Begin {
			n++
		}
		most = max(most, n)
	}
	return m.done[max(0, len(m.done)-most):]
}

// inCommon is how many bytes two texts have in common at their beginning.
func inCommon(a, b string) int {
	n := 0
	for n < min(len(a), len(b)) && a[n] == b[n] {
		n++
	}
	return n
}

// aheadByWords is how many steps are ahead: decided by the bytes in common.
func aheadByWords(p api.Pass, run []moment, known int) int {
	for n, m := range run {
		taken := len(run[0].rest) - len(m.rest)
		// A step that takes bytes which are not known was none that is decided.
		if taken > known {
			panic("a step took what was not known")
		}
		if _, is := need.Decide(p, m.done, m.back, run[0].rest[taken:known]); !is {
			return n
		}
	}
	panic("nothing is left, and that is decided")
}

// meeting is where two runs meet: their states' numbers; false: they never do.
func meeting(p api.Pass, old, run []moment, ahead int) (int, int, bool) {
	for n := ahead; n < len(run); n++ {
		for o := ahead; o < len(old); o++ {
			if run[n].clean() && old[o].clean() && run[n].rest == old[o].rest && slices.Equal(tailByWords(p, run[n]), tailByWords(p, old[o])) {
				return o, n, true
			}
		}
	}
	return len(old) - 1, len(run) - 1, false
}

func answerByWords(o, n string) api.Block {
	x := inCommon(o, n)
	y := 0
	for y < min(len(o), len(n))-x && o[len(o)-1-y] == n[len(n)-1-y] {
		y++
	}
	return block(x, len(o)-y, x, len(n)-y)
}

// both is a text, and what it must be.
type both struct {
	*edit.Text
	pass   api.Pass
	source string
	run    []moment
	redone int
	found  map[string]int // what has come, to tell whether a test is too tame
}

func start(t *testing.T, p api.Pass, s string) *both {
	t.Helper()
	x := &both{Text: begin(t, p, s), pass: p, source: s, run: runByWords(p, s), found: map[string]int{}}
	x.asks(t)
	return x
}

func (x *both) asks(t *testing.T) {
	t.Helper()
	if want := resultByWords(x.run); x.Source() != x.source || x.Result() != want || x.Redone() != x.redone {
		t.Fatalf("%s: %q: %q, %d; want %q: %q, %d", brief(x.pass), x.Source(), x.Result(), x.Redone(), x.source, want, x.redone)
	}
}

// put does an Edit, and holds all that it tells against the words.
func (x *both) put(t *testing.T, from, to int, b string) {
	t.Helper()
	old, before := x.run, x.source
	x.source = before[:from] + b + before[to:]
	x.run = runByWords(x.pass, x.source)
	ahead := aheadByWords(x.pass, x.run, inCommon(before, x.source))
	for n := range ahead {
		if old[n].rule != x.run[n].rule || !slices.Equal(old[n].took, x.run[n].took) {
			t.Fatalf("%s, %q and %q: step %d is ahead, and not the same", brief(x.pass), before, x.source, n)
		}
	}
	_, met, meet := meeting(x.pass, old, x.run, ahead)
	x.redone = met - ahead
	x.finds(meet, met, ahead)
	want := answerByWords(resultByWords(old), resultByWords(x.run))
	if got, e := x.Edit(from, to, b); got != want || e != api.OK {
		t.Fatalf("%s, %q: Edit(%d, %d, %q): %v, %d; want %v", brief(x.pass), before, from, to, b, got, e, want)
	}
	x.asks(t)
}

// finds counts what came.
func (x *both) finds(meet bool, met, ahead int) {
	x.found["edits"]++
	switch {
	case !meet:
		x.found["never meets"]++
	case met == ahead:
		x.found["meets at once"]++
	case met < len(x.run)-1:
		x.found["meets within"]++
	default:
		x.found["meets at the end"]++
	}
	if ahead > 0 {
		x.found["ahead"]++
	}
	if !x.run[ahead].clean() {
		x.found["not clean"]++
	}
}

func (x *both) clone() *both {
	c := *x
	c.Text = x.Clone()
	return &c
}

// maker makes passes, texts and changes, any of them. Of what a rule puts back, one in ring is a unit that may stand at its key's beginning; of what may not be at all, it makes one of wrong; 0: none.
type maker struct {
	*rand.Rand
	ring, wrong int
}

func made(seed int64) maker { return maker{rand.New(rand.NewSource(seed)), 5, 0} }

func (m maker) chance(n int) bool { return n > 0 && m.Intn(n) == 0 }

func pick[T any](m maker, l ...T) T { return l[m.Intn(len(l))] }

// crowd is units of which the strays make runes with one another, those of the crowd and others.
var crowd = []int{'a', 'b', 'c', 0xE9, 0x20AC, 0xFFFD, 0x10000, firstRaw, 0x110082, 0x110090, 0x1100A9, 0x1100AC, 0x1100C3, 0x1100E2, 0x1100EF, 0x1100F0, lastRaw}

// some is a set of n of some units.
func (m maker) some(n int, of []int) api.Set {
	var s api.Set
	for i, u := range of {
		if m.Intn(len(of)-i) >= n {
			continue
		}
		n--
		if k := len(s); k > 0 && s[k-1].Hi == u-1 {
			s[k-1].Hi = u
		} else {
			s = append(s, api.Range{Lo: u, Hi: u})
		}
	}
	return s
}

// row is one of mostly great sets, as rows of small ones fit nowhere.
func (m maker) row(n int) []api.Set {
	var l []api.Set
	for range n {
		l = append(l, pick(m, slices.Clone(all), of('a', 'c'), of(0x2000, 0x2FFF, 0x1100E2, 0x1100E2), m.some(1+m.Intn(len(crowd)), crowd), m.some(len(crowd)-3, crowd)))
	}
	return l
}

// many is a count that is mostly small, and at times the greatest one.
func (m maker) many(most int) int {
	return min(most, pick(m, 0, 0, 0, 0, 0, 1, 1, 1, 2, 2, most, m.Intn(most+1)))
}

func size(s api.Set) int {
	n := 0
	for _, r := range s {
		n += r.Hi - r.Lo + 1
	}
	return n
}

func (m maker) piece(key []api.Set, above []int) api.Piece {
	if m.chance(m.ring) {
		above = crowd
	}
	k := m.Intn(len(key))
	switch n := size(key[k]); {
	case m.Intn(3) == 0 && n <= len(above):
		return paired(k, m.some(n, above))
	case m.Intn(3) == 0:
		return again(k)
	}
	return unit(pick(m, above...))
}

// rule is one that begins with units of a stretch of the crowd, and mostly puts back what is above these.
func (m maker) rule() api.Rule {
	from := m.Intn(len(crowd) - 4)
	r := api.Rule{Begin: m.Intn(9) == 0, End: m.Intn(9) == 0, Key: row(m.some(1+m.Intn(3), crowd[from:from+3])), Ante: m.row(m.many(8)), Post: m.row(m.many(8))}
	r.Key = append(r.Key, m.row(m.many(7))...)
	for range m.Intn(5) {
		r.Result = append(r.Result, m.piece(r.Key, crowd[from+3:]))
	}
	r.Cursor = pick(m, len(r.Result), m.Intn(len(r.Result)+1), m.Intn(len(r.Result)+1))
	if m.chance(3 * m.wrong) {
		r.Cursor = pick(m, -1, 99, math.MinInt, math.MaxInt)
	}
	if m.chance(3 * m.wrong) {
		r.Key[m.Intn(len(r.Key))] = pick(m, nil, of('b', 'a'), of(0xD7FF, 0xE000))
	}
	return r
}

func (m maker) pass(most int) api.Pass {
	var p api.Pass
	for range m.Intn(most + 1) {
		p.Rules = append(p.Rules, m.rule())
	}
	return p
}

// mended is a pass that may be: rules that stand in the way are left out.
func mended(p api.Pass) api.Pass {
	for {
		n, e := weigh.Check(p)
		if e == api.OK {
			return p
		}
		p.Rules = slices.Delete(p.Rules, n, n+1)
	}
}

// fine is a pass that may be.
func (m maker) fine(most int) api.Pass { return mended(m.pass(most)) }

// deep is a pass that may be, some of whose rules put back what others begin with, which want more than that.
func (m maker) deep(most int) api.Pass {
	p := m.fine(most)
	for range m.Intn(most + 1) {
		from := m.Intn(len(crowd) - 1)
		first := api.Rule{Key: row(m.some(1, crowd[from:from+1])), Result: pieces(unit(pick(m, crowd...)))}
		second := api.Rule{Result: pieces(unit(pick(m, crowd...)))}
		for range 1 + m.Intn(3) {
			u := from + 1 + m.Intn(len(crowd)-from-1)
			first.Result = append(first.Result, unit(crowd[u]))
			second.Key = append(second.Key, m.some(1, crowd[u:u+1]))
		}
		second.Key = append(second.Key, m.row(1+m.Intn(3))...)
		first.Cursor, second.Cursor = m.Intn(2), m.Intn(2)
		p.Rules = append(p.Rules, first, second)
	}
	return mended(p)
}

// behind is a pass that may be, whose rules are short and hang on what was written, so that a change is seen far behind it.
func (m maker) behind(most int) api.Pass {
	var p api.Pass
	for range 1 + m.Intn(most) {
		few := crowd[:4]
		r := api.Rule{Begin: m.Intn(12) == 0, Ante: row(m.some(1+m.Intn(2), few)), Key: row(m.some(1+m.Intn(3), few)), Result: pieces(unit(pick(m, few...))), Cursor: 1}
		if m.Intn(3) == 0 {
			r.Ante = append(r.Ante, m.some(2, few))
		}
		p.Rules = append(p.Rules, r)
	}
	return mended(p)
}

// any is a pass of any of these kinds.
func (m maker) any(most int) api.Pass { return pick(m, m.fine, m.deep, m.behind)(most) }

// text is one with strays, some of which make a rune; at times of few units, so that changes make beginnings and ends alike.
func (m maker) text(most int) string {
	of := pick(m, crowd, crowd, crowd[:2], crowd[:4])
	var l []int
	for range m.Intn(most + 1) {
		l = append(l, pick(m, of...))
	}
	return bytesOf(l...)
}

// change is an Edit of a text: any places, also within runes, mostly near one another; any bytes, also the same ones.
func (m maker) change(s string) (from, to int, b string) {
	from = m.Intn(len(s) + 1)
	to = min(len(s), from+pick(m, 0, 0, 1, 1, 2, 3, m.Intn(len(s)+1)))
	switch m.Intn(9) {
	case 0:
		return from, to, s[from:to]
	case 1:
		return from, to, ""
	case 2:
		// Bytes of the text itself, so that more is alike than what was let stand.
		k := m.Intn(len(s) + 1)
		return from, to, s[k:min(len(s), k+m.Intn(6))]
	case 3:
		return from, to, pick(m, "\xE2", "\x82", "\xAC", "\xC3", "\xA9", "\xF0", "\x90", "\x80")
	}
	return from, to, m.text(pick(m, 1, 2, 6))
}

// steady puts a text back to some length, so that many changes make it neither empty nor great.
func (x *both) steady(t *testing.T, m maker, most int) {
	if len(x.source) > 3*most {
		x.put(t, m.Intn(most), len(x.source)-m.Intn(most), "")
	}
}

func TestEditsAsTheWordsSay(t *testing.T) { // P16.1 to P16.4, P16.6
	m := made(171)
	found := map[string]int{}
	for range 1600 {
		p := m.any(pick(m, 3, 6, 12))
		x := start(t, p, m.text(pick(m, 3, 10, 30)))
		x.found = found
		for range 10 {
			from, to, b := m.change(x.source)
			x.put(t, from, to, b)
			x.steady(t, m, 30)
		}
	}
	for what, least := range map[string]int{"edits": 16000, "never meets": 800, "meets at once": 2000, "meets within": 2000, "meets at the end": 800, "ahead": 6000, "not clean": 600} {
		if found[what] < least {
			t.Errorf("%v: the passes are too tame or too wild", found)
		}
	}
}

// Texts that are long enough for a change to lean on a state far from the beginning.
func TestLongerTextsAsTheWordsSay(t *testing.T) { // P16.2 to P16.4
	m := made(172)
	for range 120 {
		x := start(t, m.any(pick(m, 3, 6)), m.text(250))
		for range 8 {
			from, to, b := m.change(x.source)
			if m.Intn(2) == 0 {
				from = max(from, len(x.source)-m.Intn(40))
				to = max(from, to)
			}
			x.put(t, from, to, b)
			x.steady(t, m, 300)
		}
	}
}

// All short texts over some bytes, each changed to each other one at all places, so that none is too rare to come by chance.
func TestAllShortTexts(t *testing.T) { // P16.2 to P16.4
	few := []string{"a", "b", "\xC3", "\xA9"}
	for _, text := range []string{
		"", "a > ", "a > | b ; b > a", "ab > ba | ; é > | \\b{C3}\\b{A9}", "\\b{C3}\\b{A9} > x", "a { \\b{C3} > | \\b{A9} b ; b > ", "^ { . > ; b } $ > aa", "aa > | b ; [ab] } é > @1:[\\b{C3}\\b{A9}]", ".. > @2 @1",
		"a > | \\b{C3} ; \\b{C3}\\b{A9} > x ; é > y", "a . > @2 | b ; b { b > é", "a } b > x ; a } é > y ; a } $ > z", "^ b { a > x ; bb { a > y", "a . > | a",
	} {
		p := read(t, text)
		for _, s := range texts(few, 3) {
			x := start(t, p, s)
			for from := range len(s) + 1 {
				for to := from; to <= len(s); to++ {
					for _, b := range append(few, "", "é", "ab") {
						x.clone().put(t, from, to, b)
					}
				}
			}
		}
	}
}

// texts is all rows of some texts, so many at most.
func texts(few []string, most int) []string {
	l := []string{""}
	for from := 0; most > 0; most-- {
		end := len(l)
		for ; from < end; from++ {
			for _, x := range few {
				l = append(l, l[from]+x)
			}
		}
	}
	return l
}

func TestAnyPassesAndTheirErrors(t *testing.T) { // P16.1
	codes := map[api.Errno]int{}
	for _, m := range []maker{{rand.New(rand.NewSource(173)), 2, 0}, {rand.New(rand.NewSource(174)), 2, 4}} {
		for range 1500 {
			p, text := m.pass(6), m.text(6)
			_, code := weigh.Check(p)
			codes[code]++
			if code != api.OK {
				refuses(t, p, text, code)
				continue
			}
			x := start(t, p, text)
			from, to, b := m.change(text)
			x.put(t, from, to, b)
		}
	}
	if len(codes) < 5 || codes[api.OK] < 300 || codes[api.ErrWeighBack] < 50 || codes[api.ErrWeighMost] < 50 {
		t.Errorf("the passes are too tame or too wild: %v", codes)
	}
}

func TestClonesAsTheWordsSay(t *testing.T) { // P16.5, R7
	m := made(175)
	for range 250 {
		all := []*both{start(t, m.any(8), m.text(10))}
		for range 25 {
			x := pick(m, all...)
			switch m.Intn(6) {
			case 0, 1:
				all = append(all, x.clone())
			case 2:
				denies(t, x.Text, len(x.source), len(x.source)+1, "a", api.ErrEditPlace)
			default:
				from, to, b := m.change(x.source)
				x.put(t, from, to, b)
				x.steady(t, m, 20)
			}
			for _, y := range all {
				y.asks(t)
			}
		}
	}
}
