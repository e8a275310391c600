package machine_test

import (
	"math"
	"math/rand"
	"slices"
	"testing"

	"respell/api"
	"respell/machine"
	"respell/match"
	"respell/utf"
	"respell/weigh"
)

// Machines of any passes, held against what pass and match tell of these, rule by rule.

// maker makes passes, places and texts, any of them. Of what a rule puts back, one in ring is a unit that may stand at its key's beginning; of what may not be at all, it makes one of wrong; 0: none.
type maker struct {
	*rand.Rand
	ring, wrong int
}

func (m maker) chance(n int) bool { return n > 0 && m.Intn(n) == 0 }

func pick[T any](m maker, l ...T) T { return l[m.Intn(len(l))] }

// crowd is units at all edges; the strays among them make runes with one another.
var crowd = []int{0, 'a', 'b', 'c', 0x7F, 0x80, 0x7FF, 0x20AC, 0xD7FF, 0xE000, 0xFFFD, 0x10000, maxRune, firstRaw, 0x110082, 0x1100AC, 0x1100C3, 0x1100E2, 0x1100EF, 0x1100F0, lastRaw}

func has(s api.Set, u int) bool {
	return slices.ContainsFunc(s, func(r api.Range) bool { return r.Lo <= u && u <= r.Hi })
}

// some is a set of n of some units.
func (m maker) some(n int, of []int) api.Set {
	l := slices.Clone(of)
	m.Shuffle(len(l), func(i, j int) { l[i], l[j] = l[j], l[i] })
	l = l[:min(n, len(l))]
	slices.Sort(l)
	var s api.Set
	for _, u := range l {
		if n := len(s); n > 0 && s[n-1].Hi == u-1 {
			s[n-1].Hi = u
		} else {
			s = append(s, api.Range{Lo: u, Hi: u})
		}
	}
	return s
}

// row is one of mostly great sets, as rows of small ones fit nowhere.
func (m maker) row(n int) []api.Set {
	var l []api.Set
	for range n {
		l = append(l, pick(m, all, of('a', 'c'), m.some(1+m.Intn(len(crowd)), crowd), m.some(len(crowd)-3, crowd)))
	}
	return l
}

// many is a count that is mostly small, and at times the greatest one.
func (m maker) many(most int) int {
	return min(most, pick(m, 0, 0, 0, 0, 1, 1, 2, most, m.Intn(most+1)))
}

func size(s api.Set) int {
	n := 0
	for _, r := range s {
		n += r.Hi - r.Lo + 1
	}
	return n
}

func (m maker) piece(key []api.Set, above []int) api.Piece {
	if m.chance(m.ring) {
		above = crowd
	}
	k := m.Intn(len(key))
	switch n := size(key[k]); {
	case m.Intn(3) == 0 && n <= len(above):
		return paired(k, m.some(n, above))
	case m.Intn(2) == 0:
		return again(k)
	}
	return unit(pick(m, above...))
}

// rule is one that begins with units of a stretch of the crowd, and mostly puts back what is above these.
func (m maker) rule() api.Rule {
	from := m.Intn(len(crowd) - 5)
	r := api.Rule{Begin: m.Intn(9) == 0, End: m.Intn(9) == 0, Key: row(m.some(1+m.Intn(4), crowd[from:from+4])), Ante: m.row(m.many(8)), Post: m.row(m.many(8))}
	r.Key = append(r.Key, m.row(m.many(7))...)
	if m.Intn(8) == 0 {
		r.Key[0] = m.some(1+m.Intn(len(crowd)), crowd)
	}
	for range m.Intn(7) {
		r.Result = append(r.Result, m.piece(r.Key, crowd[from+4:]))
	}
	r.Cursor = pick(m, len(r.Result), m.Intn(len(r.Result)+1), m.Intn(len(r.Result)+1))
	if m.chance(3 * m.wrong) {
		r.Cursor = pick(m, -1, 99, math.MinInt, math.MaxInt)
	}
	if m.chance(3 * m.wrong) {
		r.Key[m.Intn(len(r.Key))] = pick(m, nil, of('b', 'a'), of(0xD7FF, 0xE000))
	}
	return r
}

// pass is one whose rules begin alike at times, with the key or the ante of one ahead.
func (m maker) pass(most int) api.Pass {
	var p api.Pass
	for range m.Intn(most + 1) {
		r := m.rule()
		if len(p.Rules) > 0 && m.Intn(3) == 0 {
			other := pick(m, p.Rules...)
			switch m.Intn(3) {
			case 0:
				r.Ante = other.Ante
			case 1:
				r.Ante = slices.Concat(other.Ante[:m.Intn(len(other.Ante)+1)], m.row(1))
			case 2:
				r.Key, r.Result, r.Cursor = slices.Concat(other.Key[:m.Intn(len(other.Key))], r.Key)[:1+m.Intn(len(r.Key))], nil, 0
			}
		}
		p.Rules = append(p.Rules, r)
	}
	return p
}

// fine is a pass that may be: rules that stand in the way are left out.
func (m maker) fine(most int) api.Pass {
	p := m.pass(most)
	for {
		n, e := weigh.Check(p)
		if e == api.OK {
			return p
		}
		p.Rules = slices.Delete(p.Rules, n, n+1)
	}
}

// text is one with strays, some of which make a rune.
func (m maker) text(most int) string {
	var l []int
	for range m.Intn(most + 1) {
		l = append(l, pick(m, crowd...))
	}
	s, _ := utf.Join(l)
	return s
}

// number is a unit, mostly one of the crowd, or none.
func (m maker) number() int {
	switch m.Intn(30) {
	case 0:
		return pick(m, noUnits...)
	case 1:
		return m.Intn(0x110200)
	}
	return pick(m, crowd...)
}

func (m maker) numbers(n int) []int {
	var l []int
	for range n {
		l = append(l, m.number())
	}
	return l
}

// at is a unit of a set, if it has one.
func (m maker) at(s api.Set) int {
	l := slices.DeleteFunc(slices.Clone(crowd), func(u int) bool { return !has(s, u) })
	if len(l) == 0 {
		return m.number()
	}
	return pick(m, l...)
}

// place is one at which a rule of a pass fits, or nearly does; or any.
func (m maker) place(p api.Pass) (done, left []int) {
	if len(p.Rules) == 0 || m.Intn(4) == 0 {
		return m.numbers(m.many(20)), m.numbers(m.many(30))
	}
	r := pick(m, p.Rules...)
	for _, s := range r.Ante {
		done = append(done, m.at(s))
	}
	for _, s := range slices.Concat(r.Key, r.Post) {
		left = append(left, m.at(s))
	}
	if !r.Begin || m.Intn(3) == 0 {
		done = slices.Concat(m.numbers(m.many(12)), done)
	}
	if !r.End || m.Intn(3) == 0 {
		left = slices.Concat(left, m.numbers(m.many(20)))
	}
	for _, l := range [][]int{done, left} {
		if len(l) > 0 && m.Intn(4) == 0 {
			l[m.Intn(len(l))] = m.number()
		}
	}
	switch m.Intn(12) {
	case 0:
		left = left[:m.Intn(len(left)+1)]
	case 1:
		done = done[m.Intn(len(done)+1):]
	}
	return done, left
}

func TestFindTellsWhatMatchDoes(t *testing.T) { // P12.2, P12.5
	found := map[int]int{}
	for _, m := range []maker{{rand.New(rand.NewSource(121)), 0, 0}, {rand.New(rand.NewSource(122)), 3, 0}} {
		for range 2500 {
			x := about(t, m.fine(pick(m, 3, 12, 30)))
			for range 8 {
				done, left := m.place(x.pass)
				want := match.Find(x.pass, done, left)
				found[want]++
				x.finds(t, done, left, want)
			}
		}
	}
	if len(found) < 25 || found[-1] > 30000 || found[-1] < 3000 {
		t.Errorf("%v: the passes are too tame or too wild", found)
	}
}

func TestRunsTellWhatPassDoes(t *testing.T) { // P12.3
	put, fit, over, longest := 0, 0, 0, 0
	for _, m := range []maker{{rand.New(rand.NewSource(123)), 0, 0}, {rand.New(rand.NewSource(124)), 5, 0}, {rand.New(rand.NewSource(125)), 1, 0}} {
		for range 1200 {
			p := m.fine(pick(m, 5, 10, 30))
			x := made(t, p)
			for range 4 {
				steps := same(t, p, x, m.text(30))
				for _, s := range steps {
					put += s.Back
					if s.Rule < 0 {
						over++
					} else {
						fit++
					}
				}
				longest = max(longest, len(steps))
			}
		}
	}
	if put < 5000 || fit < 25000 || over < 25000 || longest < 50 {
		t.Errorf("%d put back, %d by a rule, %d over, %d at most: the passes are too tame or too wild", put, fit, over, longest)
	}
}

func TestLongTextsTellWhatPassDoes(t *testing.T) { // P12.3
	m := maker{rand.New(rand.NewSource(126)), 5, 0}
	for range 12 {
		p := m.fine(60)
		same(t, p, made(t, p), m.text(3000))
	}
	for range 3 {
		p := m.fine(256)
		same(t, p, made(t, p), m.text(500))
	}
}

func TestAnyPassesAndTheirErrors(t *testing.T) { // P12.1
	codes := map[api.Errno]int{}
	for _, m := range []maker{{rand.New(rand.NewSource(127)), 4, 0}, {rand.New(rand.NewSource(128)), 4, 4}} {
		for range 1500 {
			p := m.pass(6)
			_, code := weigh.Check(p)
			codes[code]++
			if code != api.OK {
				refuses(t, p, code)
				continue
			}
			same(t, p, made(t, p), m.text(10))
		}
	}
	if len(codes) < 5 || codes[api.OK] < 300 || codes[api.ErrWeighBack] < 100 || codes[api.ErrWeighMost] < 50 {
		t.Errorf("the passes are too tame or too wild: %v", codes)
	}
}

// All short texts over some units, so that none is too rare to come by chance.
func TestAllShortTexts(t *testing.T) { // P12.3
	few := []string{"a", "b", "\xC3", "\xA9", "é"}
	for _, rules := range []string{
		"", "a > ", "a > | b ; b > a", "ab > ba | ; é > | \\b{C3}\\b{A9}", "\\b{C3}\\b{A9} > x", "a { \\b{C3} > | \\b{A9} b ; b > ", "^ { . > ; b } $ > aa", "aa > | a ; [ab] } é > @1:[\\b{C3}\\b{A9}]", ".. > @2 @1", "a . > @2 | b ; b { b > é",
	} {
		p := read(t, rules)
		m := made(t, p)
		texts := []string{""}
		for range 5 {
			var longer []string
			for _, text := range texts {
				same(t, p, m, text)
				for _, x := range few {
					longer = append(longer, text+x)
				}
			}
			texts = longer
		}
	}
}

// All places between short rows, too.
func TestAllShortPlaces(t *testing.T) { // P12.2, P12.5
	few := []int{'a', 'b', -1, firstRaw}
	rows := [][]int{nil}
	for from := 0; len(rows) < 85; from++ {
		for _, u := range few {
			rows = append(rows, append(slices.Clone(rows[from]), u))
		}
	}
	for _, rules := range []string{
		"a > 0 ; ab > 1 ; abb > 2", "a { a > 0 ; ab { a > 1 ; ba > 2 ; . > 3", "^ { a > 0 ; ^ a { . > 1 ; ^ . { ab > 2 ; b > 3", "a } $ > 0 ; b } a $ > 1 ; .. } $ > 2", "^ .. { . } . $ > 0 ; a[ab] > 1 ; [ab]b > 2 ; . } \\b{80} > 3", "\\b{80} { a > 0 ; a } b\\b{80} > 1 ; .b\\b{80} > 2",
	} {
		p := read(t, rules)
		m := made(t, p)
		for _, done := range rows {
			for _, left := range rows {
				if got, want := m.Find(done, left), match.Find(p, done, left); got != want {
					t.Fatalf("%s between %v and %v: %d, not %d", rules, done, left, got, want)
				}
			}
		}
	}
}

func TestStepsAndFindAreOne(t *testing.T) { // P12.2, P12.3: each step does the rule that Find tells of DONE and LEFT
	m := maker{rand.New(rand.NewSource(129)), 4, 0}
	for range 400 {
		p, text := m.fine(12), m.text(30)
		x := made(t, p)
		var done []int
		left := utf.Cut(text)
		for s := range stepsOf(t, x, text) {
			if got := x.Find(done, left); got != s.Rule || s.Done != len(done) || s.Left != len(left) {
				t.Fatalf("%v over %q: %v, and Find tells %d between %v and %v", p, text, s, got, done, left)
			}
			laid, back := left[:1], []int(nil)
			if s.Rule >= 0 {
				laid, back = writes(p.Rules[s.Rule], left[:s.Took])
			}
			done, left = slices.Concat(done, laid), slices.Concat(back, left[s.Took:])
		}
		want, _ := utf.Join(done)
		if got, e := x.Run(text); got != want || e != api.OK || len(left) > 0 {
			t.Errorf("%v over %q: %q, not %q, %d", p, text, got, want, e)
		}
	}
}

// writes is what a rule writes where a key stands, worked out anew: a pair by all units of its two sets.
func writes(r api.Rule, key []int) (done, back []int) {
	var l []int
	for _, p := range r.Result {
		switch p.Kind {
		case api.PUnit:
			l = append(l, p.Unit)
		case api.PCopy:
			l = append(l, key[p.Key])
		case api.PPair:
			l = append(l, inOrder(p.To)[slices.Index(inOrder(r.Key[p.Key]), key[p.Key])])
		}
	}
	return l[:r.Cursor], l[r.Cursor:]
}

func inOrder(s api.Set) []int {
	var l []int
	for _, r := range s {
		for u := r.Lo; u <= r.Hi; u++ {
			l = append(l, u)
		}
	}
	return l
}

func TestByteForByte(t *testing.T) { // P12.3, W1
	m := maker{Rand: rand.New(rand.NewSource(130))}
	// Without rules, and with one that looks at no unit of these texts.
	bare, far := made(t, api.Pass{}), made(t, read(t, "\\x{E000} > x"))
	for n := range 2000 {
		b := make([]byte, n%50)
		m.Read(b)
		for _, x := range []*machine.Machine{bare, far} {
			if got, e := x.Run(string(b)); got != string(b) || e != api.OK {
				t.Errorf("%q: %q, %d", b, got, e)
			}
		}
	}
}
