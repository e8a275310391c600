package book_test

import (
	"fmt"
	"slices"
	"strings"
	"testing"

	"respell/api"
	"respell/book"
	"respell/chain"
	"respell/names"
	"respell/parse"
	"respell/pass"
	"respell/rule"
	"respell/turn"
	"respell/weigh"
)

// What the chapter says, worked out anew: a text's lines are parted at those that end a pass, what Plain writes is written by hand, and a chain runs pass by pass.

// parted is the lines of each pass.
func parted(lines []api.Line) [][]api.Line {
	l := [][]api.Line{nil}
	for _, x := range lines {
		if x.Kind == api.LnThen {
			l = append(l, nil)
		} else {
			l[len(l)-1] = append(l[len(l)-1], x)
		}
	}
	return l
}

// readByWords is the passes of a text, or its fault.
func readByWords(text string) ([]api.Pass, api.Fault) {
	lines, fault := parse.Parse(text)
	if fault.Code != api.OK {
		return nil, fault
	}
	l, n, e := names.Passes(lines)
	if e != api.OK {
		return nil, api.Fault{At: lines[n].At, Code: e}
	}
	if len(l) > 16 {
		return nil, api.Fault{At: len(text), Code: api.ErrChainMany}
	}
	for n, p := range l {
		if _, e := weigh.Check(p); e != api.OK {
			own := slices.DeleteFunc(parted(lines)[n], func(x api.Line) bool { return x.Kind != api.LnRule })
			return nil, api.Fault{At: own[0].At, Code: e}
		}
	}
	return l, api.Fault{}
}

func runByWords(l []api.Pass, s string) (string, api.Errno) {
	if len(s) > 16384 {
		return "", api.ErrLong
	}
	for _, p := range l {
		if len(s) > 16384 {
			return "", api.ErrLong
		}
		s, _ = pass.Run(p, s)
	}
	return s, api.OK
}

func unitByWords(u int) string {
	switch {
	case u >= 0x110000:
		return fmt.Sprintf("\\b{%02X}", u-0x110000)
	case u == ' ' || u < 127 && strings.ContainsRune(">;{}|^$.[]-=:@#\\,", rune(u)):
		return "\\" + string(rune(u))
	case u > ' ' && u < 127:
		return string(rune(u))
	}
	return fmt.Sprintf("\\x{%X}", u)
}

func size(s api.Set) int {
	n := 0
	for _, x := range s {
		n += x.Hi - x.Lo + 1
	}
	return n
}

func setByWords(s api.Set) string {
	var l []string
	for _, x := range s {
		if x.Lo == x.Hi {
			l = append(l, unitByWords(x.Lo))
		} else {
			l = append(l, unitByWords(x.Lo)+"-"+unitByWords(x.Hi))
		}
	}
	return "[" + strings.Join(l, " ") + "]"
}

func rowByWords(l []api.Set) []string {
	var words []string
	for _, s := range l {
		if size(s) == 1 {
			words = append(words, unitByWords(s[0].Lo))
		} else {
			words = append(words, setByWords(s))
		}
	}
	return words
}

func pieceByWords(x api.Piece) string {
	switch x.Kind {
	case api.PUnit:
		return unitByWords(x.Unit)
	case api.PCopy:
		return fmt.Sprintf("@%d", x.Key+1)
	}
	return fmt.Sprintf("@%d:%s", x.Key+1, setByWords(x.To))
}

func ruleByWords(r api.Rule) string {
	var l []string
	if r.Begin {
		l = append(l, "^")
	}
	l = append(l, rowByWords(r.Ante)...)
	if r.Begin || len(r.Ante) > 0 {
		l = append(l, "{")
	}
	l = append(l, rowByWords(r.Key)...)
	if r.End || len(r.Post) > 0 {
		l = append(l, "}")
	}
	l = append(l, rowByWords(r.Post)...)
	if r.End {
		l = append(l, "$")
	}
	l = append(l, ">")
	for n, x := range r.Result {
		if n == r.Cursor {
			l = append(l, "|")
		}
		l = append(l, pieceByWords(x))
	}
	return strings.Join(append(l, ";\n"), " ")
}

// textByWords is the text of passes that may be, however long.
func textByWords(l []api.Pass) string {
	var texts []string
	for _, p := range l {
		s := ""
		for _, r := range p.Rules {
			s += ruleByWords(r)
		}
		texts = append(texts, s)
	}
	return strings.Join(texts, "then ;\n")
}

func plainByWords(l []api.Pass) (string, api.Errno) {
	refused := func(p api.Pass) bool { _, e := rule.All(p); return e != api.OK }
	if len(l) == 0 || len(l) > 16 || slices.ContainsFunc(l, refused) {
		return "", api.ErrBookPass
	}
	if text := textByWords(l); len(text) <= 32768 {
		return text, api.OK
	}
	return "", api.ErrLong
}

func backByWords(l []api.Pass) (string, int, api.Errno) {
	back := make([]api.Pass, len(l))
	for n := len(l) - 1; n >= 0; n-- {
		p, _, e := turn.Turn(l[n])
		if e != api.OK {
			return "", n, e
		}
		back[len(l)-1-n] = p
	}
	text, e := plainByWords(back)
	return text, 0, e
}

func samePasses(l, k []api.Pass) bool {
	return slices.EqualFunc(l, k, func(p, q api.Pass) bool { return slices.EqualFunc(p.Rules, q.Rules, rule.Same) })
}

// refused holds that all calls tell a text's fault, and nothing beside it.
func refused(t *testing.T, text string, at int, code api.Errno) {
	t.Helper()
	want := api.Fault{At: at, Code: code}
	if _, fault := readByWords(text); fault != want {
		t.Fatalf("the words tell of %s: %v, not %v", brief(text), fault, want)
	}
	c, fault := book.Open(text)
	if c != nil || fault != want {
		t.Fatalf("Open of %s: a chain %t, %v; want %v", brief(text), c != nil, fault, want)
	}
	for _, s := range []string{"", "abc", tooLong} {
		made, fault, e := book.Run(text, s)
		if made != "" || fault != want || e != api.OK {
			t.Fatalf("Run of %s: %.90q, %v, %d; want %v", brief(text), made, fault, e, want)
		}
	}
	back, fault, n, e := book.Back(text)
	if back != "" || fault != want || n != 0 || e != api.OK {
		t.Fatalf("Back of %s: %.90q, %v, %d, %d; want %v", brief(text), back, fault, n, e, want)
	}
}

// opened holds that Open takes a text, and is its chain and its passes.
func opened(t *testing.T, text string) (*chain.Chain, []api.Pass) {
	t.Helper()
	l, fault := readByWords(text)
	if fault.Code != api.OK {
		t.Fatalf("the words tell of %s: %v", brief(text), fault)
	}
	c, fault := book.Open(text)
	if c == nil || fault != (api.Fault{}) {
		t.Fatalf("Open of %s: a chain %t, %v", brief(text), c != nil, fault)
	}
	return c, l
}

// ranByWords holds what Run answers of a text that may be against the words, and is that.
func ranByWords(t *testing.T, rules, s string) (string, api.Errno) {
	t.Helper()
	_, l := opened(t, rules)
	want, code := runByWords(l, s)
	made, fault, e := book.Run(rules, s)
	if made != want || fault != (api.Fault{}) || e != code {
		t.Fatalf("Run of %s over %.200q: %.200q, %v, %d; want %.200q, %d", brief(rules), s, made, fault, e, want, code)
	}
	return made, e
}

// told holds what Back answers of a text that may be against the words, and is that.
func told(t *testing.T, text string) (string, int, api.Errno) {
	t.Helper()
	_, l := opened(t, text)
	want, m, code := backByWords(l)
	back, fault, n, e := book.Back(text)
	if back != want || fault != (api.Fault{}) || n != m || e != code {
		t.Fatalf("Back of %s: %s, %v, %d, %d; want %s, %d, %d", brief(text), brief(back), fault, n, e, brief(want), m, code)
	}
	return back, n, e
}

// turned holds what undoes a text against what is wanted, and is that.
func turned(t *testing.T, text, want string) string {
	t.Helper()
	back, _, e := told(t, text)
	if back != want || e != api.OK {
		t.Fatalf("Back of %s: %s, %d; want %s", brief(text), brief(back), e, brief(want))
	}
	return back
}

// stands holds that a text is not undone, and of which pass it is, and why.
func stands(t *testing.T, text string, n int, code api.Errno) {
	t.Helper()
	if back, m, e := told(t, text); back != "" || m != n || e != code {
		t.Fatalf("Back of %s: %s, %d, %d; want %d, %d", brief(text), brief(back), m, e, n, code)
	}
}

// plain holds what Plain writes of passes against the words, and that it is read as the same passes; and is that.
func plain(t *testing.T, l []api.Pass) string {
	t.Helper()
	text, e := book.Plain(l)
	if want, code := plainByWords(l); text != want || e != api.OK || code != api.OK {
		t.Fatalf("Plain of %s: %s, %d; want %s, %d", brief(l), brief(text), e, brief(want), code)
	}
	again := read(t, text)
	if !samePasses(again, l) {
		t.Fatalf("Plain of %s is read as %s", brief(l), brief(again))
	}
	if twice, e := book.Plain(again); twice != text || e != api.OK {
		t.Fatalf("%s, written again: %s, %d", brief(text), brief(twice), e)
	}
	return text
}

// is holds that Plain writes a text, of some passes.
func is(t *testing.T, l []api.Pass, want string) {
	t.Helper()
	if text := plain(t, l); text != want {
		t.Fatalf("Plain of %s: %s; want %s", brief(l), brief(text), brief(want))
	}
}

// unwritten holds that Plain refuses passes, and why.
func unwritten(t *testing.T, l []api.Pass, code api.Errno) {
	t.Helper()
	if _, e := plainByWords(l); e != code {
		t.Fatalf("the words tell of %s: %d, not %d", brief(l), e, code)
	}
	if text, e := book.Plain(l); text != "" || e != code {
		t.Fatalf("Plain of %d passes, %s: %s, %d; want %d", len(l), brief(l), brief(text), e, code)
	}
}

// streamed is what a chain makes of a text that comes in pieces of some bytes.
func streamed(c *chain.Chain, s string, size int) string {
	x, made := c.Stream(), ""
	for piece := range slices.Chunk([]byte(s), size) {
		made += string(x.Put(piece))
	}
	return made + string(x.Close())
}

// same holds that two chains answer the same of a text.
func same(t *testing.T, c, d *chain.Chain, s string) {
	t.Helper()
	one, e := c.Each(s)
	other, f := d.Each(s)
	if !slices.Equal(one, other) || e != f {
		t.Fatalf("over %.90q: %.300q, %d, and %.300q, %d", s, one, e, other, f)
	}
	last, e := c.Run(s)
	if again, f := d.Run(s); last != again || e != f {
		t.Fatalf("over %.90q: %.300q, %d, and %.300q, %d", s, last, e, again, f)
	}
	blocks, e := c.Blocks(s)
	if others, f := d.Blocks(s); !slices.Equal(blocks, others) || e != f {
		t.Fatalf("over %.90q: %s, %d, and %s, %d", s, brief(blocks), e, brief(others), f)
	}
	if made, again := streamed(c, s, 3), streamed(d, s, 3); made != again {
		t.Fatalf("over %.90q in pieces: %.300q, and %.300q", s, made, again)
	}
}

// sameAsPasses holds what a chain answers of a text against what passes do.
func sameAsPasses(t *testing.T, c *chain.Chain, l []api.Pass, s string) {
	t.Helper()
	want, code := runByWords(l, s)
	if made, e := c.Run(s); made != want || e != code {
		t.Fatalf("%s over %.90q: %.300q, %d; want %.300q, %d", brief(l), s, made, e, want, code)
	}
	if made := streamed(c, s, 2); code == api.OK && made != want {
		t.Fatalf("%s over %.90q in pieces: %.300q; want %.300q", brief(l), s, made, want)
	}
	if texts, e := c.Each(s); e != code || code == api.OK && (len(texts) != len(l) || texts[len(l)-1] != want) {
		t.Fatalf("%s over %.90q: %.300q, %d", brief(l), s, texts, e)
	}
	d, _, e := chain.New(l)
	if e != api.OK {
		t.Fatalf("%s: %d", brief(l), e)
	}
	same(t, c, d, s)
}
