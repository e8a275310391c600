package book_test

import (
	"slices"
	"strings"
	"testing"

	"respell/api"
	"respell/book"
	"respell/chain"
	"respell/names"
	"respell/parse"
	"respell/pass"
	"respell/turn"
	"respell/weigh"
)

// What follows of the chapter's promises: P23.5 (W8), P23.6, P23.7 (W6).

func TestThereAndBack(t *testing.T) { // P23.5, W8
	refusedToo := 0
	for _, m := range []maker{made(251, 0), made(252, 0)} {
		for range 800 {
			l := m.passes(pick(m, 1, 4, 16), pick(m, 1, 4))
			if len(l) == 0 {
				l = []api.Pass{{}}
			}
			if _, e := plainByWords(l); e == api.OK {
				// Also such as weigh refuses.
				plain(t, l)
			}
			if slices.ContainsFunc(l, func(p api.Pass) bool { _, e := weigh.Check(p); return e != api.OK }) {
				refusedToo++
			}
		}
	}
	if refusedToo < 250 {
		t.Errorf("only %d that may not run", refusedToo)
	}
	for n := 1; n <= 16; n++ {
		plain(t, make([]api.Pass, n))
	}
}

func TestUnlikePassesHaveUnlikeTexts(t *testing.T) { // P23.5
	m := made(253, 0)
	were := map[string][]api.Pass{}
	for range 3000 {
		l := append(m.passes(2, 2), api.Pass{})
		text, e := book.Plain(l)
		if e != api.OK {
			continue
		}
		if other, is := were[text]; is && !samePasses(l, other) {
			t.Fatalf("%s is the text of %s, too", brief(text), brief(other))
		}
		were[text] = l
	}
	if len(were) < 1500 {
		t.Errorf("only %d texts", len(were))
	}
}

// plainly is the plain text of what Open reads of a text, and the chain of that; false: it is too long.
func plainly(t *testing.T, text string) (string, *chain.Chain, bool) {
	t.Helper()
	_, l := opened(t, text)
	if _, e := plainByWords(l); e != api.OK {
		return "", nil, false
	}
	s := plain(t, l)
	c, again := opened(t, s)
	if !samePasses(again, l) {
		t.Fatalf("%s is read as %s", brief(text), brief(again))
	}
	return s, c, true
}

func TestTheSameInPlain(t *testing.T) { // P23.6
	for _, text := range samples {
		c, _ := opened(t, text)
		s, d, is := plainly(t, text)
		if !is {
			t.Fatalf("%s: no plain text", brief(text))
		}
		if twice, _, _ := plainly(t, s); twice != s {
			t.Fatalf("%s, written again: %s", brief(s), brief(twice))
		}
		for _, x := range texts {
			same(t, c, d, x)
			one, _ := ranByWords(t, text, x)
			ran(t, s, x, one)
		}
		long(t, text, tooLong)
		long(t, s, tooLong)
	}
}

func TestAnyTextsInPlain(t *testing.T) { // P23.6: with names, classes, remarks
	named, did, ran, none := 0, 0, 0, 0
	for _, m := range []maker{made(254, 0), made(255, 0)} {
		for range 500 {
			d := m.drawn(pick(m, 2, 5, 12), true)
			text := d.text()
			c, fault := book.Open(text)
			if fault.Code != api.OK {
				none++
				continue
			}
			s, plainOne, is := plainly(t, text)
			if !is {
				none++
				continue
			}
			if strings.Contains(text, "$v") {
				named++
			}
			if strings.Contains(s, "$") != strings.Contains(s, "$ >") {
				t.Fatalf("%s has names: %s", brief(text), brief(s))
			}
			for range 4 {
				x := m.textOf(pick(m, 5, 20, 60), letters)
				same(t, c, plainOne, x)
				ran++
				if y, _ := c.Run(x); y != x {
					did++
				}
			}
		}
	}
	if named < 300 || ran < 2500 || did < 700 || none > 600 {
		t.Errorf("%d texts with names, %d runs, %d that made something, %d texts refused: too tame or too wild", named, ran, did, none)
	}
}

// between is all texts of some passes over one, the first of them itself.
func between(t *testing.T, l []api.Pass, s string) []string {
	t.Helper()
	all := []string{s}
	for _, p := range l {
		made, e := pass.Run(p, all[len(all)-1])
		if e != api.OK {
			t.Fatalf("%s over %.90q: %d", brief(p), all[len(all)-1], e)
		}
		all = append(all, made)
	}
	return all
}

// within tells whether what each pass is given is of those units over which it is undone.
func within(t *testing.T, l []api.Pass, s string) bool {
	t.Helper()
	for n, x := range between(t, l, s)[:len(l)] {
		over, _, e := turn.Over(l[n])
		if e != api.OK {
			return false
		}
		for _, u := range unitsByWords(x) {
			if !slices.ContainsFunc(over, func(r api.Range) bool { return r.Lo <= u && u <= r.Hi }) {
				return false
			}
		}
	}
	return true
}

// comes holds that a text comes back: by both texts, and by their chains, as a whole and in pieces.
func comes(t *testing.T, text, back, s string) string {
	t.Helper()
	there, e := ranByWords(t, text, s)
	if e != api.OK {
		t.Fatalf("%s over %.90q: %d", brief(text), s, e)
	}
	ran(t, back, there, s)
	c, _ := book.Open(text)
	d, _ := book.Open(back)
	if again := streamed(d, streamed(c, s, 2), 3); again != s {
		t.Fatalf("%s over %.90q, and back in pieces: %.300q", brief(text), s, again)
	}
	return there
}

func TestThereAndBackAgain(t *testing.T) { // P23.7, W6
	for _, x := range []struct {
		text  string
		texts []string
	}{
		{"", []string{"", "a", "\xE2\x82"}},
		{"then ; then ;", []string{"", "a", "\xE2\x82"}},
		{"[a-c] > @1:[x-z] ;", []string{"", "abcd", "cba€\xE2\x82", "\xE2a\x82\xAC"}},
		{"[a-c] > @1:[x-z] ; then ; q > Q ;", []string{"abcq1", "", "qa", "aqaq"}},
		{"$v = [a-c] ; $v > @1:[x-z] ; then ; $w = [x-z] ; $w > @1:$v ; then ; 1 { a } $ > A ;", []string{"abc1a", "1a", "cba", "1aa"}},
		{"ab > cd ; then ; cd > € ;", []string{"a", "ab", "aab", "abd", "daab\xE2"}},
		{"\\b{C3} > E ; then ; E\\b{A9} > F ; then ; ^ { F > G ;", []string{"\xC3", "\xC3x", "\xC3\xC3\xA9", "x\xC3"}},
		{"a > b ; b > a ; then ; b > c ; c > b ; then ; then ; [ab] > @1:[bc] ; c > a ;", []string{"", "abc", "ccbaab", "a1b2\xE2"}},
	} {
		back, _, e := told(t, x.text)
		if e != api.OK {
			t.Fatalf("%s: %d", x.text, e)
		}
		for _, s := range x.texts {
			if !within(t, read(t, x.text), s) {
				t.Errorf("%s: not over %q", x.text, s)
				continue
			}
			comes(t, x.text, back, s)
		}
	}
}

func TestAnyTextsComeBack(t *testing.T) { // P23.7, W6
	came, did, strays, more, lost := 0, 0, 0, 0, 0
	units := slices.Concat(loud, quiet)
	for _, m := range []maker{made(256, 0), made(257, 0)} {
		for range 500 {
			var l []api.Pass
			for range 1 + m.Intn(4) {
				l = append(l, m.fine(pick(m, 1, 2, 4)))
			}
			text := textByWords(l)
			back, _, e := told(t, text)
			if e != api.OK {
				t.Fatalf("%s: %d", brief(text), e)
			}
			opened(t, back)
			for range 5 {
				s := m.textFor(l, pick(m, 3, 8, 20), units)
				if !within(t, l, s) {
					lost++
					continue
				}
				came++
				if comes(t, text, back, s) != s {
					did++
				}
				if strings.ToValidUTF8(s, "") != s {
					strays++
				}
				if len(l) > 1 {
					more++
				}
			}
		}
	}
	if came < 1500 || did < 1000 || strays < 500 || more < 800 || lost < 500 {
		t.Errorf("%d texts came back, %d that became others, %d with strays, %d of more passes; %d not asked: too tame or too wild", came, did, strays, more, lost)
	}
}

func TestOtherTextsNeedNotComeBack(t *testing.T) { // P23.7: what each pass is given counts, not the text alone
	text := "a > b ; then ; c > b ;"
	back := turned(t, text, "b > c ;\nthen ;\nb > a ;\n")
	for _, s := range []string{"a", "ca", "xac"} {
		if within(t, read(t, text), s) {
			t.Errorf("over %q", s)
		}
	}
	made, _ := ranByWords(t, text, "ac")
	ran(t, back, made, "cc")
}

func TestBackOfBack(t *testing.T) { // P23.7: what undoes what undoes
	m := made(258, 0)
	twice := 0
	for range 600 {
		var l []api.Pass
		for range 1 + m.Intn(3) {
			l = append(l, m.fine(3))
		}
		text := textByWords(l)
		back, _, _ := told(t, text)
		again, _, e := told(t, back)
		if e != api.OK {
			continue
		}
		twice++
		for range 4 {
			s := m.textOf(20, slices.Concat(loud, quiet))
			want, _ := ranByWords(t, text, s)
			ran(t, again, s, want)
		}
	}
	if twice < 200 {
		t.Errorf("only %d", twice)
	}
}

// What the lines of Plain's text are.
func TestLinesOfPlain(t *testing.T) { // P23.4: no names, no classes
	m := made(259, 0)
	for range 500 {
		l := append(m.passes(5, 3), api.Pass{})
		text, e := book.Plain(l)
		if e != api.OK {
			continue
		}
		lines, fault := parse.Parse(text)
		if fault.Code != api.OK {
			t.Fatalf("%s: %v", brief(text), fault)
		}
		if again, e := parse.Print(lines); again != text || e != api.OK {
			t.Fatalf("%s, printed: %s, %d", brief(text), brief(again), e)
		}
		thens := 0
		for _, x := range lines {
			if x.Kind == api.LnThen {
				thens++
			} else if x.Kind != api.LnRule {
				t.Fatalf("%s: %v", brief(text), x)
			}
			for _, i := range slices.Concat(x.Ante, x.Key, x.Post) {
				if i.Kind != api.ItUnit && (i.Kind != api.ItSet || i.Not) {
					t.Fatalf("%s: %v", brief(text), i)
				}
				if s, _ := names.Set(i, nil); i.Kind == api.ItSet && size(s) == 1 {
					t.Fatalf("%s: %v", brief(text), i)
				}
			}
		}
		if thens != len(l)-1 {
			t.Fatalf("%s has %d passes", brief(text), len(l))
		}
	}
}
