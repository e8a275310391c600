package book_test

import (
	"fmt"
	"math"
	"math/rand"
	"slices"
	"strings"
	"unicode/utf8"

	"respell/api"
	"respell/turn"
)

// maker makes passes, rules' texts and texts. Of its rules one in wrong may not be, for some reason; 0: none.
type maker struct {
	*rand.Rand
	wrong int
}

func made(seed int64, wrong int) maker { return maker{rand.New(rand.NewSource(seed)), wrong} }

func pick[T any](m maker, l ...T) T { return l[m.Intn(len(l))] }

// crowd is units at all edges, signs among them, of which some stand side by side.
var crowd = []int{0, 1, ' ', '!', '#', '$', '-', '@', 'a', 'b', 'c', 'x', 'y', 'z', '~', 0x7F, 0x80, 0xFF, 0x7FF, 0x800, 0xD7FE, 0xD7FF, 0xE000, 0xFFFD, 0xFFFF, 0x10000, maxRune - 1, maxRune, firstRaw, firstRaw + 1, 0x1100C3, lastRaw - 1, lastRaw}

// setOf is a set of units that rise.
func setOf(l []int) api.Set {
	var s api.Set
	for _, u := range l {
		if n := len(s); n > 0 && s[n-1].Hi == u-1 {
			s[n-1].Hi = u
		} else {
			s = append(s, api.Range{Lo: u, Hi: u})
		}
	}
	return s
}

// some is a set of n units, of those handed in.
func (m maker) some(n int, of []int) api.Set {
	l := slices.Clone(of)
	m.Shuffle(len(l), func(i, j int) { l[i], l[j] = l[j], l[i] })
	l = l[:min(n, len(l))]
	slices.Sort(l)
	return setOf(l)
}

func (m maker) row(least int) []api.Set {
	var l []api.Set
	for range least + pick(m, 0, 0, 0, 1, 1, 2, m.Intn(9-least)) {
		l = append(l, m.some(1+m.Intn(pick(m, 1, 3, len(crowd))), crowd))
	}
	return l
}

func (m maker) piece(key []api.Set) api.Piece {
	place := m.Intn(len(key))
	return pick(m, unit(pick(m, crowd...)), again(place), paired(place, m.some(size(key[place]), crowd)))
}

func (m maker) rule() api.Rule {
	r := api.Rule{Begin: m.Intn(2) == 0, End: m.Intn(2) == 0, Ante: m.row(0), Key: m.row(1), Post: m.row(0)}
	for range pick(m, 0, 1, 2, 3, m.Intn(17)) {
		r.Result = append(r.Result, m.piece(r.Key))
	}
	r.Cursor = m.Intn(len(r.Result) + 1)
	if m.wrong > 0 && m.Intn(m.wrong) == 0 {
		m.spoil(&r)
	}
	return r
}

// spoil makes a rule one that may not be.
func (m maker) spoil(r *api.Rule) {
	switch m.Intn(8) {
	case 0:
		r.Key = nil
	case 1:
		r.Key = slices.Repeat(r.Key[:1], 9)
	case 2:
		r.Ante = slices.Repeat(r.Key[:1], 9)
	case 3:
		r.Post = append(r.Post, pick(m, nil, of('b', 'a'), of(0xD7FF, 0xE000), of('a', 'a', 'b', 'b'), of(-1, 0), of(maxRune+1, maxRune+1)))
	case 4:
		r.Result = slices.Repeat(pieces(unit('a')), 17)
	case 5:
		r.Result, r.Cursor = pieces(pick(m, api.Piece{}, unit(0xD800), unit(-1), unit(maxRune+1), api.Piece{Kind: 4}, api.Piece{Kind: 1, Key: 1}, api.Piece{Kind: 2, Unit: 1})), 0
	case 6:
		r.Result, r.Cursor = pieces(pick(m, again(-1), again(len(r.Key)), paired(len(r.Key), nil), paired(0, nil), paired(0, of(0, 0xFFF)))), 0
	case 7:
		r.Cursor = pick(m, -1, len(r.Result)+1, math.MinInt, math.MaxInt)
	}
}

// passes is up to so many, of up to so many rules each.
func (m maker) passes(most, rules int) []api.Pass {
	l := make([]api.Pass, m.Intn(most+1))
	for n := range l {
		for range m.Intn(rules + 1) {
			l[n].Rules = append(l[n].Rules, m.rule())
		}
	}
	return l
}

// Rules' texts are drawn line by line, with names and classes in them.

// letters is what their units are: few, so that rules often fit; strays among them that make runes with one another.
var letters = []int{'1', '2', 'a', 'b', 'c', 'd', 'x', 'y', 'z', 0xE9, 0x20AC, 0x110082, 0x1100A9, 0x1100AC, 0x1100C3, 0x1100E2}

// element is an item of a drawn line, as it is written, and the sets that it may be paired with, likewise.
type element struct{ text, partner string }

// draft is a drawn text: its lines, each with the sign of what it is.
type draft struct {
	maker
	names int
	lines []string
}

const isName, isRule, isThen = '=', '>', 't'

// kind is what a drawn line is.
func kind(line string) rune {
	if strings.HasPrefix(line, "then ") {
		return isThen
	}
	if strings.HasPrefix(line, "$") && strings.Contains(line, " = ") {
		return isName
	}
	return isRule
}

// set is n letters as they are written, in one of many ways.
func (d *draft) set(n int) string {
	s := d.some(n, letters)
	var l []string
	for _, x := range s {
		if x.Hi == x.Lo {
			l = append(l, unitByWords(x.Lo))
			continue
		}
		// Also in two parts that overlap.
		middle := x.Lo + d.Intn(x.Hi-x.Lo+1)
		l = append(l, unitByWords(x.Lo)+" - "+unitByWords(middle), unitByWords(middle)+"-"+unitByWords(x.Hi))
	}
	d.Shuffle(len(l), func(i, j int) { l[i], l[j] = l[j], l[i] })
	return "[ " + strings.Join(l, pick(d.maker, " ", "  ", "\n")) + " ]"
}

func (d *draft) item() element {
	n := d.Intn(12)
	if n < 3 && d.names > 0 {
		name := fmt.Sprintf("$v%d", d.Intn(d.names))
		return element{name, name}
	}
	if n < 7 {
		k := 1 + d.Intn(5)
		return element{d.set(k), d.set(k)}
	}
	if n < 8 {
		text := pick(d.maker, ".", "[:digit:]", "[:vowel:]", "[^ a b ]", "[ [:digit:] a - c x ]", "[^ [:ascii:] ]", "[ [:stray:] a ]", "[:rune:]", "[ b ]")
		return element{text, text}
	}
	u := unitByWords(pick(d.maker, letters...))
	return element{u, "[ " + unitByWords(pick(d.maker, letters...)) + " ]"}
}

func (d *draft) items(n int) []element {
	var l []element
	for range n {
		l = append(l, d.item())
	}
	return l
}

func joined(l []element) string {
	s := ""
	for _, x := range l {
		s += x.text + " "
	}
	return s
}

func (d *draft) name() string {
	d.names++
	return fmt.Sprintf("$v%d = %s ;", d.names-1, (&draft{maker: d.maker, names: d.names - 1}).item().text)
}

func (d *draft) rule(cursor bool) string {
	key := d.items(pick(d.maker, 1, 1, 1, 2, 2, 3))
	s := pick(d.maker, "", "", "", "", "", "^ ")
	if ahead := d.items(pick(d.maker, 0, 0, 0, 1, 2)); s != "" || len(ahead) > 0 {
		s += joined(ahead) + "{ "
	}
	s += joined(key)
	end := pick(d.maker, "", "", "", "", "", "$ ")
	if behind := d.items(pick(d.maker, 0, 0, 0, 1, 2)); end != "" || len(behind) > 0 {
		s += "} " + joined(behind) + end
	}
	s += "> "
	n := pick(d.maker, 0, 1, 1, 1, 2, 3)
	at := -1
	if cursor {
		at = d.Intn(2 * (n + 1))
	}
	for i := range n + 1 {
		if i == at {
			s += "| "
		}
		if i < n {
			s += d.piece(key) + " "
		}
	}
	return s + ";"
}

func (d *draft) piece(key []element) string {
	k := d.Intn(len(key))
	// A unit alone can't be paired.
	to := key[k].partner
	return pick(d.maker, unitByWords(pick(d.maker, letters...)), fmt.Sprintf("@%d", k+1), fmt.Sprintf("@%d:%s", k+1, to))
}

// drawn is a text of so many lines.
func (m maker) drawn(lines int, cursors bool) *draft {
	d := &draft{maker: m}
	passes := 1
	for range lines {
		switch n := m.Intn(8); {
		case n == 0 && passes < 16:
			d.lines = append(d.lines, "then ;")
			passes++
		case n < 3:
			d.lines = append(d.lines, d.name())
		default:
			d.lines = append(d.lines, d.rule(cursors && m.Intn(4) == 0))
		}
	}
	return d
}

// laid is lines with something that is let by around each, and where each one begins.
func (m maker) laid(lines []string) (string, []int) {
	var at []int
	s := ""
	gap := func() string {
		return pick(m, "", " ", "\n", "\r\n\t", "# then ;\n", " # $q > [ ;\n\n#\n ", "  ")
	}
	for _, x := range lines {
		s += gap()
		at = append(at, len(s))
		s += x
	}
	return s + gap(), at
}

func (d *draft) text() string {
	s, _ := d.laid(d.lines)
	return s
}

// Passes that can be turned, as the chapter of the way back asks.

// loud is the units of keys and images, and quiet those of contexts.
var (
	loud  = []int{'a', 'b', 'c', 'd', 'p', 'q', 'x', 'y', 'z', 0xE9, 0x20AC, 0x10000, maxRune, 0x1100A9, 0x1100C3, 0x1100E2}
	quiet = []int{0, '1', '2', '3', 0xFFFD, maxRune - 1, 0x110082, 0x1100AC}
)

// runes is the first units of some, up to the strays.
func runes(l []int) []int {
	n, _ := slices.BinarySearch(l, firstRaw)
	return l[:n]
}

// mild is a rule that can be turned, as far as that is asked of it alone; of some units.
func (m maker) mild(of []int) api.Rule {
	var r api.Rule
	to := runes(of)
	for place := range pick(m, 1, 1, 1, 2, 2, 3) {
		s := m.some(pick(m, 1, 1, 2, 3), of)
		if size(s) > len(to) {
			s = m.some(1, to)
		}
		r.Key = append(r.Key, s)
		if size(s) > 1 && m.Intn(3) > 0 || s[len(s)-1].Hi > maxRune {
			r.Result = append(r.Result, paired(place, m.some(size(s), to)))
		} else if size(s) > 1 || m.Intn(2) == 0 {
			r.Result = append(r.Result, again(place))
		}
	}
	for range pick(m, 0, 0, 1, 2) {
		r.Result = append(r.Result, unit(pick(m, to...)))
	}
	if len(r.Result) == 0 {
		r.Result = pieces(unit(pick(m, to...)))
	}
	m.Shuffle(len(r.Result), func(i, j int) { r.Result[i], r.Result[j] = r.Result[j], r.Result[i] })
	r.Cursor = len(r.Result)
	if m.Intn(4) == 0 {
		r.Ante = slices.Repeat(row(m.some(1+m.Intn(4), quiet)), m.Intn(3))
		r.Post = slices.Repeat(row(m.some(1+m.Intn(4), quiet)), m.Intn(3))
		r.Begin, r.End = m.Intn(4) == 0, m.Intn(4) == 0
	}
	return r
}

// fine is a pass that can be turned: rules that stand in the way are left out.
func (m maker) fine(most int) api.Pass {
	var p api.Pass
	l := slices.Clone(loud)
	m.Shuffle(len(l), func(i, j int) { l[i], l[j] = l[j], l[i] })
	l = append(l[:4+m.Intn(6)], pick(m, int('a'), 'x', 0x20AC))
	slices.Sort(l)
	l = slices.Compact(l)
	for range m.Intn(most + 1) {
		p.Rules = append(p.Rules, m.mild(l))
	}
	for {
		_, n, e := turn.Turn(p)
		if e == api.OK {
			return p
		}
		p.Rules = slices.Delete(p.Rules, n, n+1)
	}
}

func bytesOf(l ...int) string {
	var b []byte
	for _, u := range l {
		if u >= 0x110000 {
			b = append(b, byte(u-0x110000))
		} else {
			b = utf8.AppendRune(b, rune(u))
		}
	}
	return string(b)
}

func unitsByWords(s string) []int {
	var l []int
	for at := 0; at < len(s); {
		r, n := utf8.DecodeRuneInString(s[at:])
		u := int(r)
		if r == utf8.RuneError && n == 1 {
			u = 0x110000 + int(s[at])
		}
		l, at = append(l, u), at+n
	}
	return l
}

// textOf is a text of up to so many of some units.
func (m maker) textOf(most int, of []int) string {
	var l []int
	for range m.Intn(most + 1) {
		l = append(l, pick(m, of...))
	}
	return bytesOf(l...)
}

// textFor is a text that often has what a rule of some passes wants.
func (m maker) textFor(l []api.Pass, most int, of []int) string {
	var all []api.Rule
	for _, p := range l {
		all = append(all, p.Rules...)
	}
	s := ""
	for range m.Intn(most + 1) {
		if len(all) == 0 || m.Intn(3) == 0 {
			s += bytesOf(pick(m, of...))
			continue
		}
		r := pick(m, all...)
		for _, x := range slices.Concat(r.Ante, r.Key, r.Post) {
			s += bytesOf(x[m.Intn(len(x))].Lo)
		}
	}
	return s
}
