package parse_test

import (
	"math/rand"
	"strings"
	"testing"

	"respell/api"
	"respell/parse"
	"respell/scan"
)

// What follows of the chapter's promises: P5.3, P5.4.

// maker makes lines that may be, any of them.
type maker struct{ *rand.Rand }

func (m maker) unit() int {
	all := []int{'a', 'b', 'z', 't', 'h', 'e', 'n', 0, ' ', '\n', '#', '\\', ';', '>', '[', ']', '^', '$', '-', ':', '@', ',', '{', '}', '|', '=', '.', 0x7F, 0xE9, 0xD7FF, 0xE000, 0xFFFD, 0x10FFFF, 0x110080, 0x1100C3, 0x1100FF}
	return all[m.Intn(len(all))]
}

func (m maker) name() string {
	all := []string{"v", "w", "then", "_", "0", "Az_09", strings.Repeat("n", 32)}
	return all[m.Intn(len(all))]
}

func (m maker) part() api.Item {
	switch m.Intn(4) {
	case 0:
		lo, hi := m.unit(), m.unit()
		if lo > hi {
			lo, hi = hi, lo
		}
		if (lo < 0x110000) != (hi < 0x110000) {
			lo = hi
		}
		return upTo(lo, hi)
	case 1:
		return name(m.name())
	case 2:
		return class(m.name())
	}
	return unit(m.unit())
}

func (m maker) paired() api.Item {
	switch m.Intn(5) {
	case 0:
		return name(m.name())
	case 1:
		return class(m.name())
	case 2:
		return anyUnit()
	}
	s := set()
	s.Not = m.Intn(2) == 0
	for range m.Intn(4) {
		s.Parts = append(s.Parts, m.part())
	}
	return s
}

func (m maker) item() api.Item {
	if m.Intn(2) == 0 {
		return unit(m.unit())
	}
	return m.paired()
}

func (m maker) piece() api.Item {
	key := []int{1, 2, 8, 10, 999999999}[m.Intn(5)]
	switch m.Intn(3) {
	case 0:
		return copied(key)
	case 1:
		return pair(key, m.paired())
	}
	return unit(m.unit())
}

func (m maker) row(one func() api.Item) []api.Item {
	var l []api.Item
	for range m.Intn(5) {
		l = append(l, one())
	}
	return l
}

func (m maker) line() api.Line {
	switch m.Intn(6) {
	case 0:
		return then()
	case 1:
		return define(m.name(), m.item())
	}
	l := rule(m.row(m.item), m.row(m.piece))
	l.Begin, l.End = m.Intn(2) == 0, m.Intn(2) == 0
	if m.Intn(2) == 0 {
		l.Ante = m.row(m.item)
	}
	if m.Intn(2) == 0 {
		l.Post = m.row(m.item)
	}
	l.Cursor = m.Intn(len(l.Result) + 1)
	return l
}

func TestPrintedLinesAreReadSo(t *testing.T) { // P5.3, W8
	m := maker{rand.New(rand.NewSource(53))}
	for range 5000 {
		var l []api.Line
		for range m.Intn(6) {
			l = append(l, at(m.Intn(99), m.line()))
		}
		s, err := parse.Print(l)
		if err != api.OK {
			t.Fatalf("%v: %d", l, err)
		}
		back, f := parse.Parse(s)
		if f != (api.Fault{}) || !same(placeless(back), placeless(l)) {
			t.Errorf("%q: %v, %v; want %v", s, back, f, l)
		}
		isOneForm(t, s, back)
	}
}

// isOneForm wants each line to stand on a line of its own, with one blank between its words, and its place to be there.
func isOneForm(t *testing.T, s string, l []api.Line) {
	t.Helper()
	texts := strings.SplitAfter(s, "\n")
	if len(texts) != len(l)+1 || texts[len(l)] != "" {
		t.Errorf("%q: not a line each", s)
		return
	}
	place := 0
	for i, x := range texts[:len(l)] {
		if l[i].At != place || !strings.HasSuffix(x, ";\n") || strings.Contains(strings.ReplaceAll(x, `\ `, `\_`), "  ") || strings.HasPrefix(x, " ") {
			t.Errorf("%q at %d, not %d: not in form", x, l[i].At, place)
		}
		place += len(x)
	}
}

func TestReadTextsArePrintedAlike(t *testing.T) { // P5.3
	for _, s := range goodTexts {
		l := lines(t, s)
		once, err := parse.Print(l)
		if err != api.OK {
			t.Errorf("%q: %d", s, err)
		}
		again, err := parse.Print(lines(t, once))
		if again != once || err != api.OK {
			t.Errorf("%q: %q, then %q, %d", s, once, again, err)
		}
		if !same(placeless(lines(t, once)), placeless(l)) {
			t.Errorf("%q: printed %q, other lines", s, once)
		}
	}
}

func TestTheGreatestTextsComeBack(t *testing.T) { // P5.3
	l := filled(32768)
	s, err := parse.Print(l)
	if err != api.OK || !same(placeless(lines(t, s)), l) {
		t.Errorf("%d bytes, %d: other lines", len(s), err)
	}
	full := manyOf(512, set(upTo('a', 'b'), class("x")))
	one := api.Line{Kind: 2, Ante: full, Key: full, Post: full, Result: manyOf(512, copied(7)), Cursor: 511}
	s, err = parse.Print([]api.Line{one})
	if err != api.OK || !same(lines(t, s), []api.Line{one}) {
		t.Errorf("full rows of %d bytes, %d: other lines", len(s), err)
	}
	// What was read may be too long to be printed.
	dense := strings.Repeat("abcdefgh>;", 3276)
	if s, err := parse.Print(lines(t, dense)); s != "" || err != api.ErrLong {
		t.Errorf("%d bytes printed, %d", len(s), err)
	}
}

var letBy = []string{" ", "\t", "\r", "\n", "\r\n \t", "#\n", " # a > b ; then ; , @0 \xFF\n", "\n##\n\n# [:\n"}

// spread puts something in between each two tokens of a text, ahead of the first one, and behind the last one; and tells where the lines begin.
func spread(t *testing.T, s string, between func() string) (string, []int) {
	t.Helper()
	tokens, f := scan.Scan(s)
	if f != (api.Fault{}) {
		t.Fatal(s, f)
	}
	var b strings.Builder
	var places []int
	for i, x := range tokens {
		b.WriteString(between())
		if i == 0 || tokens[i-1].Kind == 11 {
			places = append(places, b.Len())
		}
		b.WriteString(s[x.At : x.At+x.Len])
	}
	b.WriteString(between())
	return b.String(), places
}

func TestWhatIsLetByChangesNoLine(t *testing.T) { // P5.4
	r := rand.New(rand.NewSource(54))
	var ways []func() string
	for _, x := range letBy {
		ways = append(ways, func() string { return x })
	}
	for range 20 {
		ways = append(ways, func() string { return letBy[r.Intn(len(letBy))] })
	}
	for _, s := range goodTexts {
		for _, between := range ways {
			wide, places := spread(t, s, between)
			l, f := parse.Parse(wide)
			if f != (api.Fault{}) || !same(placeless(l), placeless(lines(t, s))) {
				t.Errorf("%q: %v, %v", wide, l, f)
				continue
			}
			for i := range l {
				if l[i].At != places[i] {
					t.Errorf("%q: line %d at %d, not at %d", wide, i, l[i].At, places[i])
				}
			}
		}
	}
}

func TestWhatIsLetByMovesFaults(t *testing.T) { // P5.4
	for s, want := range map[string]int{"a > b": 5, "a ;": 2, "^a>b;": 2, "a>$v;": 2, "a>b|c|;": 5, "[a-]>;": 3, "[c-a]>;": 1, "$v=;": 3} {
		_, tight := parse.Parse(s)
		if tight.At != want {
			t.Errorf("%q: at %d", s, tight.At)
		}
		for _, x := range letBy {
			wide, _ := spread(t, s, func() string { return x })
			_, f := parse.Parse(wide)
			place := len(wide)
			if tight.At < len(s) {
				head, _ := spread(t, s[:tight.At], func() string { return x })
				place = len(head)
			}
			if f.Code != tight.Code || f.At != place {
				t.Errorf("%q: %v, want it at %d", wide, f, place)
			}
		}
	}
}
