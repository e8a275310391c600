package pass_test

import (
	"math/rand"
	"slices"
	"strings"
	"testing"

	"respell/api"
	"respell/pass"
	"respell/utf"
	"respell/weigh"
)

// What follows of the chapter's promises: P10.3 (W3), P10.4 (W1), P10.5.

// fitTogether holds the steps of a run against one another, and tells them.
func fitTogether(t *testing.T, p api.Pass, text string) []api.Step {
	t.Helper()
	done, left := 0, len(utf.Cut(text))
	var l []api.Step
	for s := range stepsOf(t, p, text) {
		if s.Done != done || s.Left != left || s.Left <= 0 || s.Rule < -1 || s.Rule >= len(p.Rules) {
			t.Fatalf("%v over %.60q: step %d is %v behind %d done, %d left", p, text, len(l), s, done, left)
		}
		took, laid, back := 1, 1, 0
		if s.Rule >= 0 {
			r := p.Rules[s.Rule]
			took, laid, back = len(r.Key), r.Cursor, len(r.Result)-r.Cursor
		}
		if s.Took != took || s.Laid != laid || s.Back != back {
			t.Fatalf("%v over %.60q: step %d is %v", p, text, len(l), s)
		}
		done, left = done+s.Laid, left-s.Took+s.Back
		l = append(l, s)
	}
	if left != 0 {
		t.Errorf("%v over %.60q: %d are left behind the last step", p, text, left)
	}
	if most := weigh.Bound(p, text); len(l) > most {
		t.Errorf("%v over %.60q: %d steps, not %d at most", p, text, len(l), most)
	}
	if (text == "") != (len(l) == 0) {
		t.Errorf("%v over %.60q: %d steps", p, text, len(l))
	}
	return l
}

func TestStepsFitTogether(t *testing.T) { // P10.3
	for _, m := range []maker{{rand.New(rand.NewSource(107)), 0, 0}, {rand.New(rand.NewSource(108)), 3, 0}} {
		back, heavy := 0, 0
		for range 1500 {
			p := m.fine(10)
			for range 3 {
				text := m.text(30)
				l := fitTogether(t, p, text)
				for _, s := range l {
					back += s.Back
				}
				if len(l) > len(utf.Cut(text)) {
					heavy++
				}
			}
		}
		if back < 3000 || heavy < 200 {
			t.Errorf("%d put back, %d longer than their texts: the passes are too tame", back, heavy)
		}
	}
}

func TestTheLastStep(t *testing.T) { // P10.3: behind it nothing is left, whatever it does
	for _, rules := range []string{"", "a > ", "a > xyz", "aa > ", "aaa > x", "a > | bb ; b > ", "ab > | c ; c > | dd"} {
		for _, text := range []string{"", "a", "aa", "aaa", "ab", "abc", "\xE2", "ba\xE2\x82"} {
			fitTogether(t, read(t, rules), text)
		}
	}
}

// ladder is rules of which each puts back what the next one takes, from the unit 0 on.
func ladder(n int) []api.Rule {
	var l []api.Rule
	for i := range n {
		l = append(l, api.Rule{Key: row(of(i, i)), Result: pieces(unit(i + 1))})
	}
	return l
}

func TestRunsAsLongAsTheBound(t *testing.T) { // P10.3
	for _, x := range []struct{ rules, text string }{
		{"a > | bb ; b > | cc ; c > d", "abc"}, {"a > | bb ; b > | cc ; c > d", "aaaabbbbx\xFF"}, {"", "aé\xE2"}, {"a > b", "aaa"}, {"a > | bbbbbbb ; b > | cccccccc", "aa"}, {"x > | @1:[a] ; a > | bb", "xx"}, {"\\b{80} > | é\\b{81}\\b{81} ; \\b{81} > | a", "\x80\x81x\x80"},
	} {
		p := read(t, x.rules)
		if l := fitTogether(t, p, x.text); len(l) != weigh.Bound(p, x.text) {
			t.Errorf("%s over %q: %d steps, the bound is %d", x.rules, x.text, len(l), weigh.Bound(p, x.text))
		}
	}
}

func TestTheLongestRun(t *testing.T) { // P10.1, P10.3: the longest text, each of its units as heavy as one may be
	p, text := api.Pass{Rules: ladder(63)}, strings.Repeat("\x00", 16384)
	n := 0
	for s := range stepsOf(t, p, text) {
		if s.Done != n/64 || s.Left != 16384-n/64 || s.Rule != n%64 && (n%64 != 63 || s.Rule != -1) {
			t.Fatalf("step %d: %v", n, s)
		}
		n++
	}
	if n != 64*16384 || n != weigh.Bound(p, text) {
		t.Errorf("%d steps", n)
	}
	runs(t, p, text, strings.Repeat("\x3F", 16384))
}

func TestMuchIsPutBack(t *testing.T) { // P10.1, P10.3: what is left grows as far as weights allow
	p := read(t, "a > | bbbbbbb ; b > | cccccccc")
	text := strings.Repeat("a", 1000)
	l := fitTogether(t, p, text)
	if len(l) != 64*1000 {
		t.Errorf("%d steps", len(l))
	}
	runs(t, p, text, strings.Repeat("c", 56*1000))
	// All of it at the beginning, ahead of anything that is done.
	p = read(t, "^ { a > | bbbbbbb ; ^ { b > | cccccccc ; ^ { c > ")
	runs(t, p, "aab", "")
	if l := fitTogether(t, p, "aaab"); len(l) != 3*(1+7+56)+9 || l[len(l)-1] != (api.Step{Rule: 2, Left: 1, Took: 1}) {
		t.Errorf("%d steps, %s", len(l), written(l))
	}
}

func TestByteForByte(t *testing.T) { // P10.4, W1
	m := maker{rand.New(rand.NewSource(109)), 4, 0}
	tested := 0
	for range 3000 {
		p := m.fine(6)
		begins := func(u int) bool {
			return slices.ContainsFunc(p.Rules, func(r api.Rule) bool { return has(r.Key[0], u) })
		}
		text := textByWords(slices.DeleteFunc(unitsByWords(m.text(60)), begins))
		// Strays that come side by side may be another unit than they were.
		if slices.ContainsFunc(unitsByWords(text), begins) {
			continue
		}
		if text != "" && len(p.Rules) > 0 {
			tested++
		}
		runs(t, p, text, text)
		for n, s := range fitTogether(t, p, text) {
			if s.Rule != -1 || s.Done != n {
				t.Errorf("%v over %q: %v", p, text, s)
			}
		}
	}
	if tested < 1000 {
		t.Errorf("only %d tested", tested)
	}
}

func TestByteForByteWithoutRules(t *testing.T) { // P10.4, W1
	m := maker{Rand: rand.New(rand.NewSource(110))}
	for n := range 2000 {
		b := make([]byte, n%50)
		m.Read(b)
		runs(t, api.Pass{}, string(b), string(b))
		fitTogether(t, api.Pass{}, string(b))
	}
	// A byte within a rune is no stray, and a stray is no part of a rune.
	p := read(t, "[:stray:] > x")
	runs(t, p, "é€\U0010FFFF\uFFFD", "é€\U0010FFFF\uFFFD")
	p = read(t, "[:rune:] > x")
	for b := 0x80; b < 0x100; b++ {
		runs(t, p, string([]byte{byte(b)}), string([]byte{byte(b)}))
	}
	runs(t, p, "\xE2\x82\xE2\x82\xFF\xC0\x80\xED\xA0\x80", "\xE2\x82\xE2\x82\xFF\xC0\x80\xED\xA0\x80")
	// A unit of a key, but not of its beginning, and units of contexts.
	runsText(t, "ab > x ; q { aé > y ; a } \\b{80} > z", "bé\x80q\x80éb", "bé\x80q\x80éb")
}

const sees = api.MaxKey + api.MaxNear + 3

// alike holds the steps over a text against those over the same with more behind it, as long as enough is left; it tells how many these are.
func alike(t *testing.T, p api.Pass, text, more string) int {
	t.Helper()
	long := slices.Collect(stepsOf(t, p, text+more))
	apart := len(utf.Cut(text+more)) - len(utf.Cut(text))
	n := 0
	for s := range stepsOf(t, p, text) {
		if s.Left <= sees {
			break
		}
		s.Left += apart
		if n >= len(long) || long[n] != s {
			t.Fatalf("%v over %q, and %q behind it: step %d is not %v", p, text, more, n, s)
		}
		n++
	}
	return n
}

func TestWhatAUnitSees(t *testing.T) { // P10.5
	m := maker{rand.New(rand.NewSource(111)), 4, 0}
	steps, cut := 0, 0
	for range 1500 {
		p, text := m.fine(8), m.text(60)
		steps += alike(t, p, text, m.text(40))
		// Cut anywhere, within runes too.
		at := m.Intn(len(text) + 1)
		if !utf.Border(text, at) {
			cut++
		}
		steps += alike(t, p, text[:at], text[at:])
		alike(t, p, text, "")
	}
	if steps < 20000 || cut < 100 {
		t.Errorf("%d steps alike, %d texts cut within a rune: too tame", steps, cut)
	}
}

func TestWhatAUnitSeesAtTheGreatest(t *testing.T) { // P10.5
	// As far as a rule may see, with nothing behind it.
	r := api.Rule{Key: slices.Repeat(row(all), 8), Post: slices.Repeat(row(all), 8), End: true}
	p := api.Pass{Rules: []api.Rule{r}}
	for _, text := range []string{strings.Repeat("a", 40), strings.Repeat("a", 37) + "\xF0\x90\x80", strings.Repeat("€", 20) + "\xE2\x82", strings.Repeat("\xE2", 30) + "\xC3"} {
		for _, more := range []string{"", "a", "\x80", "\x82\xAC", "\xAC", "\xA9", "\x80\x80aaaaaaaa"} {
			if n := alike(t, p, text, more); n != len(utf.Cut(text))-sees {
				t.Errorf("%d steps", n)
			}
		}
	}
	// At 16 units that are left it fits, and does not, if more stands behind.
	for n := range 20 {
		for more := range 3 {
			want := n == 16
			l := slices.Collect(stepsOf(t, p, strings.Repeat("a", n+more)))
			fit := slices.ContainsFunc(l, func(s api.Step) bool { return s.Left == n+more && s.Rule == 0 })
			if fit != (want && more == 0 || n+more == 16) {
				t.Errorf("%d and %d: %s", n, more, written(l))
			}
		}
	}
}

func TestRunsAndStepsAreOne(t *testing.T) { // P10.2: the steps are those of that run
	m := maker{rand.New(rand.NewSource(112)), 4, 0}
	for range 500 {
		p, text := m.fine(8), m.text(30)
		var done []int
		left := unitsByWords(text)
		for s := range stepsOf(t, p, text) {
			laid, back := left[:1], []int(nil)
			if s.Rule >= 0 {
				written := writesByWords(p.Rules[s.Rule], left[:s.Took])
				laid, back = written[:s.Laid], written[s.Laid:]
			}
			done, left = slices.Concat(done, laid), slices.Concat(back, left[s.Took:])
		}
		want, _ := utf.Join(done)
		if got, e := pass.Run(p, text); got != want || e != api.OK {
			t.Errorf("%v over %q: %q, not %q, %d", p, text, got, want, e)
		}
	}
}
