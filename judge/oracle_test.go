package judge_test

import (
	"fmt"
	"math/rand"
	"slices"
	"testing"
	"unicode/utf8"

	"respell/api"
	"respell/judge"
	"respell/pass"
	"respell/weigh"
)

// What the chapter says, worked out anew: all rows are made and then put in order, and each text is run over.

// answer is what Differ answers.
type answer struct {
	s    string
	is   bool
	code api.Errno
}

func (a answer) String() string { return fmt.Sprintf("%.60q, %t, %d", a.s, a.is, a.code) }

func differ(p, q api.Pass, over api.Set, most int) answer {
	s, is, e := judge.Differ(p, q, over, most)
	return answer{s, is, e}
}

// same and told are answers without an error.
var same = answer{}

func told(s string) answer { return answer{s: s, is: true} }

func unitsByWords(s string) []int {
	var l []int
	for at := 0; at < len(s); {
		r, n := utf8.DecodeRuneInString(s[at:])
		u := int(r)
		if r == utf8.RuneError && n == 1 {
			u = 0x110000 + int(s[at])
		}
		l, at = append(l, u), at+n
	}
	return l
}

func bytesOf(l ...int) string {
	var b []byte
	for _, u := range l {
		if u >= 0x110000 {
			b = append(b, byte(u-0x110000))
		} else {
			b = utf8.AppendRune(b, rune(u))
		}
	}
	return string(b)
}

// inOrder is the units of a set, one by one.
func inOrder(s api.Set) []int {
	var l []int
	for _, r := range s {
		for u := r.Lo; u <= r.Hi; u++ {
			l = append(l, u)
		}
	}
	return l
}

// rowsByWords is all rows of up to most units of a set, in their order.
func rowsByWords(over api.Set, most int) [][]int {
	all := [][]int{{}}
	longest := all
	for range most {
		var longer [][]int
		for _, l := range longest {
			for _, u := range inOrder(over) {
				longer = append(longer, slices.Concat([]int{u}, l))
			}
		}
		all, longest = append(all, longer...), longer
	}
	slices.SortFunc(all, inRow)
	return all
}

// inRow tells which of two rows comes first.
func inRow(a, b []int) int {
	if len(a) != len(b) {
		return len(a) - len(b)
	}
	for i := range a {
		if a[i] != b[i] {
			return a[i] - b[i]
		}
	}
	return 0
}

func properByWords(l []int) bool { return slices.Equal(unitsByWords(bytesOf(l...)), l) }

// textsByWords is THE TEXTS.
func textsByWords(over api.Set, most int) []string {
	var texts []string
	for _, l := range rowsByWords(over, most) {
		if properByWords(l) {
			texts = append(texts, bytesOf(l...))
		}
	}
	return texts
}

// unlike tells whether two passes make unlike texts of one.
func unlike(t *testing.T, p, q api.Pass, s string) bool {
	t.Helper()
	a, e := pass.Run(p, s)
	b, f := pass.Run(q, s)
	if e != api.OK || f != api.OK {
		t.Fatalf("%s and %s over %.60q: %d, %d", brief(p), brief(q), s, e, f)
	}
	return a != b
}

// firstByWords is the first of some texts of which two passes make unlike ones.
func firstByWords(t *testing.T, p, q api.Pass, texts []string) answer {
	t.Helper()
	for _, s := range texts {
		if unlike(t, p, q, s) {
			return told(s)
		}
	}
	return same
}

// codeByWords is why Differ refuses, by what stands ahead of all texts. (The count is that of sets and numbers for which all rows can be counted.)
func codeByWords(p, q api.Pass, valid bool, units, most int) api.Errno {
	if _, e := weigh.Check(p); e != api.OK {
		return e
	}
	if _, e := weigh.Check(q); e != api.OK {
		return e
	}
	if !valid {
		return api.ErrSetRow
	}
	if most < 0 || 4096 < most {
		return api.ErrArg
	}
	count, longest := 1.0, 1.0 // beyond all that there are, a float is infinite
	for range most {
		longest *= float64(units)
		count += longest
	}
	if count > 1048576 {
		return api.ErrJudgeMany
	}
	return api.OK
}

// maker makes passes of a few units.
type maker struct {
	*rand.Rand
	few []int
}

func made(seed int64, few ...int) maker { return maker{rand.New(rand.NewSource(seed)), few} }

func pick[T any](m maker, l ...T) T { return l[m.Intn(len(l))] }

// set is one of the few units.
func (m maker) set() api.Set {
	l := slices.Clone(m.few)
	m.Shuffle(len(l), func(i, j int) { l[i], l[j] = l[j], l[i] })
	return setOf(l[:1+m.Intn(min(3, len(l)))]...)
}

func (m maker) row(n int) []api.Set {
	var l []api.Set
	for range n {
		l = append(l, m.set())
	}
	return l
}

func size(s api.Set) int { return len(inOrder(s)) }

func (m maker) piece(key []api.Set) api.Piece {
	k := m.Intn(len(key))
	switch to := m.set(); {
	case m.Intn(3) == 0 && size(to) == size(key[k]):
		return paired(k, to)
	case m.Intn(3) == 0:
		return again(k)
	}
	return unit(pick(m, append(m.few, 'y')...))
}

func (m maker) rule() api.Rule {
	r := api.Rule{Begin: m.Intn(7) == 0, End: m.Intn(7) == 0, Ante: m.row(pick(m, 0, 0, 0, 1, 2)), Key: m.row(pick(m, 1, 1, 2, 3)), Post: m.row(pick(m, 0, 0, 0, 1, 2))}
	for range m.Intn(4) {
		r.Result = append(r.Result, m.piece(r.Key))
	}
	r.Cursor = pick(m, len(r.Result), m.Intn(len(r.Result)+1))
	return r
}

// fine leaves out the rules of a pass that stand in the way.
func fine(p api.Pass) api.Pass {
	for {
		n, e := weigh.Check(p)
		if e == api.OK {
			return p
		}
		p.Rules = slices.Delete(slices.Clone(p.Rules), n, n+1)
	}
}

func (m maker) pass(most int) api.Pass {
	var p api.Pass
	for range m.Intn(most + 1) {
		p.Rules = append(p.Rules, m.rule())
	}
	return fine(p)
}

// near is a pass that is another one in one thing alone, or in none.
func (m maker) near(p api.Pass) api.Pass {
	p.Rules = slices.Clone(p.Rules)
	if len(p.Rules) == 0 {
		return m.pass(1)
	}
	n := m.Intn(len(p.Rules))
	r := &p.Rules[n]
	switch m.Intn(9) {
	case 0:
		p.Rules = slices.Delete(p.Rules, n, n+1)
	case 1:
		p.Rules[0], *r = *r, p.Rules[0]
	case 2:
		r.Begin = !r.Begin
	case 3:
		r.End = !r.End
	case 4:
		r.Ante = m.row(m.Intn(2))
	case 5:
		r.Post = m.row(m.Intn(2))
	case 6:
		r.Cursor = m.Intn(len(r.Result) + 1)
	case 7:
		r.Result = append(slices.Clone(r.Result), m.piece(r.Key))
		r.Cursor++
	case 8:
		p.Rules = append(p.Rules, m.rule())
	}
	return fine(p)
}

// alike is a pass that does the same, by other rules.
func (m maker) alike(p api.Pass) api.Pass {
	p.Rules = slices.Clone(p.Rules)
	if len(p.Rules) == 0 {
		return rules(api.Rule{Key: row(setOf('a')), Result: pieces(again(0)), Cursor: 1})
	}
	n := m.Intn(len(p.Rules))
	r := p.Rules[n]
	k := m.Intn(len(r.Key))
	l := inOrder(r.Key[k])
	if len(l) == 1 || slices.ContainsFunc(r.Result, func(x api.Piece) bool { return x.Kind == api.PPair }) {
		// One more of a rule, behind it, is never done.
		p.Rules = append(p.Rules, r)
		return p
	}
	// One rule for the least unit of a set, and one for all others.
	lo, hi := r, r
	lo.Key, hi.Key = slices.Clone(r.Key), slices.Clone(r.Key)
	lo.Key[k], hi.Key[k] = setOf(l[0]), setOf(l[1:]...)
	p.Rules = slices.Concat(p.Rules[:n], []api.Rule{hi, lo}, p.Rules[n+1:])
	return p
}
