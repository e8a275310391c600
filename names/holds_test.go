package names_test

import (
	"fmt"
	"math"
	"slices"
	"strings"
	"sync"
	"testing"
	"unsafe"

	"respell/api"
	"respell/class"
	"respell/names"
)

// What holds everywhere: R1 to R5.

func sample(t *testing.T) []api.Line {
	t.Helper()
	return written(t, strings.ReplaceAll(shortForms, "$REST", "@2:$more"))
}

// spoil writes into all lists of passes, at every depth, the spare room too.
func spoil(l []api.Pass) {
	l = l[:cap(l)]
	for i := range l {
		rules := l[i].Rules[:cap(l[i].Rules)]
		for k := range rules {
			for _, sets := range [][]api.Set{rules[k].Ante, rules[k].Key, rules[k].Post} {
				spoilSets(sets)
			}
			pieces := rules[k].Result[:cap(rules[k].Result)]
			for n := range pieces {
				spoilSet(pieces[n].To)
				pieces[n] = api.Piece{Kind: -1, Unit: -1, Key: -1}
			}
			rules[k] = api.Rule{Begin: true, End: true, Cursor: -1}
		}
		l[i] = api.Pass{Rules: []api.Rule{{}}}
	}
}

func spoilSets(l []api.Set) {
	l = l[:cap(l)]
	for i := range l {
		spoilSet(l[i])
		l[i] = of(-1, -2)
	}
}

func spoilSet(s api.Set) {
	s = s[:cap(s)]
	for i := range s {
		s[i] = api.Range{Lo: -1, Hi: -2}
	}
}

func passes(t *testing.T, l []api.Line) []api.Pass {
	t.Helper()
	p, line, e := names.Passes(l)
	if line != 0 || e != api.OK {
		t.Fatal(line, e)
	}
	return p
}

func TestWhatIsToldIsTheCallers(t *testing.T) { // R4
	earlier := passes(t, sample(t))
	want := fmt.Sprint(earlier)
	l := sample(t)
	for range 3 {
		spoil(passes(t, l))
		p := passes(t, l)
		spoil(append(p, api.Pass{}))
		spoil(p)
		if got := passes(t, l); fmt.Sprint(got) != want {
			t.Errorf("a later answer: %v", got)
		}
	}
	if fmt.Sprint(earlier) != want {
		t.Errorf("an earlier answer: %v", earlier)
	}
}

func TestASetThatIsToldIsTheCallers(t *testing.T) { // R4
	items := []api.Item{unit('a'), anyUnit(), set(), not(), set(unit('a'), upTo('x', 'z')), set(name("v")), not(name("v"), classOf("digit")), set(upTo(0xD7FF, 0xE000)), set(classOf("any"))}
	for n, s := range known {
		if setByForm(s) {
			items = append(items, name(n))
		}
	}
	for _, n := range class.Names() {
		items = append(items, classOf(n))
	}
	for _, i := range items {
		first, _ := names.Set(i, known)
		want := slices.Clone(first)
		for range 3 {
			s, _ := names.Set(i, known)
			spoilSet(append(s, api.Range{}))
			spoilSet(s)
			setIs(t, i, want)
		}
		if !slices.Equal(first, want) {
			t.Errorf("%v: an earlier answer: %v", i, first)
		}
	}
	setIs(t, name("v"), of('a', 'c'))
	setIs(t, name("many"), every(0x400, 512))
}

// room is where a list lies, its spare room too.
type room struct{ from, to uintptr }

func roomOf[T any](l []T) room {
	var x T
	from := uintptr(unsafe.Pointer(unsafe.SliceData(l)))
	return room{from, from + uintptr(cap(l))*unsafe.Sizeof(x)}
}

func roomsOf(l []api.Pass) []room {
	rooms := []room{roomOf(l)}
	for _, p := range l {
		rooms = append(rooms, roomOf(p.Rules))
		for _, r := range p.Rules {
			for _, sets := range [][]api.Set{r.Ante, r.Key, r.Post} {
				rooms = append(rooms, roomOf(sets))
				for _, s := range sets {
					rooms = append(rooms, roomOf(s))
				}
			}
			rooms = append(rooms, roomOf(r.Result))
			for _, x := range r.Result {
				rooms = append(rooms, roomOf(x.To))
			}
		}
	}
	return rooms
}

func TestNoTwoListsShareRoom(t *testing.T) { // R4
	for _, l := range [][]api.Line{sample(t), written(t, "$v=[a-c];$v{$v$v}$v>@1:$v @2:$v;then;$v>@1:$v;"), written(t, ".{..}.>@1:.;[:digit:]{[:digit:]}[:digit:]>@1:[:digit:];"), written(t, "$v=.;$w=$v;$w{$v}$w>;"), written(t, "a>b;c>d;e>f;then;then;g>h;")} {
		rooms := append(roomsOf(passes(t, l)), roomsOf(passes(t, l))...)
		for _, s := range known {
			rooms = append(rooms, roomOf(s))
		}
		for n := range known {
			if s, e := names.Set(name(n), known); e == api.OK {
				rooms = append(rooms, roomOf(s))
			}
		}
		for i, a := range rooms {
			for _, b := range rooms[:i] {
				if a.from < b.to && b.from < a.to {
					t.Errorf("%v: two lists share room", l)
				}
			}
		}
	}
}

// roomy is a copy of a list with spare room behind it that has something in it.
func roomy(l []api.Item) []api.Item {
	var out []api.Item
	for _, x := range l {
		if x.Parts != nil {
			x.Parts = roomy(x.Parts)
		}
		out = append(out, x)
	}
	return append(out, api.Item{Kind: 99}, api.Item{Kind: 98})[:len(out)]
}

// seen tells all that stands in lists, the spare room too.
func seen(l []api.Line) string {
	var b strings.Builder
	for _, x := range l[:cap(l)] {
		fmt.Fprint(&b, x)
		for _, r := range [][]api.Item{x.Ante, x.Key, x.Post, x.Result} {
			seenRow(&b, r)
		}
	}
	return b.String()
}

func seenRow(b *strings.Builder, l []api.Item) {
	for _, x := range l[:cap(l)] {
		fmt.Fprint(b, x)
		seenRow(b, x.Parts)
	}
}

func TestLinesHandedInStay(t *testing.T) { // R4
	var l []api.Line
	for _, x := range sample(t) {
		x.Ante, x.Key, x.Post, x.Result = roomy(x.Ante), roomy(x.Key), roomy(x.Post), roomy(x.Result)
		l = append(l, x)
	}
	l = append(l, api.Line{Kind: 77})[:len(l)]
	before := seen(l)
	p := passes(t, l)
	want := fmt.Sprint(p)
	spoil(passes(t, l))
	if seen(l) != before {
		t.Error("the lines have changed")
	}
	// And they aren't kept: what is done to them changes no answer.
	for i := range l {
		for _, r := range [][]api.Item{l[i].Ante, l[i].Key, l[i].Post, l[i].Result} {
			for k := range r {
				r[k].Parts = slices.Delete(r[k].Parts, 0, len(r[k].Parts))
				r[k] = unit('q')
			}
		}
		l[i].Name = "q"
	}
	if fmt.Sprint(p) != want {
		t.Errorf("the passes have changed: %v", p)
	}
}

func TestNamesHandedInStay(t *testing.T) { // R4
	spare := append(of('a', 'c', 'k', 'm'), of(7, 5, 3, 1)...)[:2]
	m := map[string]api.Set{"v": spare, "w": of('w', 'w'), "wrong": of(9, 5)}
	i := set(unit('x'), name("v"), name("w"))
	i.Parts = roomy(i.Parts)
	for _, x := range []api.Item{name("v"), i, not(i.Parts...), name("none"), name("wrong"), set(name("v"), name("none"))} {
		s, _ := names.Set(x, m)
		spoilSet(append(s, api.Range{}))
		spoilSet(s)
		if len(m) != 3 || fmt.Sprint(spare[:cap(spare)][:4]) != "[{97 99} {107 109} {7 5} {3 1}]" || fmt.Sprint(m["w"], m["wrong"], m["v"]) != "[{119 119}] [{9 5}] [{97 99} {107 109}]" || len(i.Parts) != 3 || i.Parts[1].Name != "v" || i.Parts[:4][3].Kind != 99 {
			t.Errorf("%v: what was handed in has changed: %v", x, m)
		}
	}
	// Nor is it kept.
	s, _ := names.Set(name("v"), m)
	spare[0] = api.Range{Lo: 'b', Hi: 'b'}
	m["w"] = of('q', 'q')
	if !slices.Equal(s, of('a', 'c', 'k', 'm')) {
		t.Errorf("kept: %v", s)
	}
	for _, x := range []struct {
		n    string
		want api.Set
	}{{"v", of('b', 'b', 'k', 'm')}, {"w", of('q', 'q')}} {
		if s, e := names.Set(name(x.n), m); !slices.Equal(s, x.want) || e != api.OK {
			t.Errorf("%s: %v, %d", x.n, s, e)
		}
	}
}

func TestCallsLeaveNoTrace(t *testing.T) { // R5
	want := fmt.Sprint(passes(t, sample(t)))
	for range 3 {
		refuses(t, 1, api.ErrNamesTwice, written(t, "$a = a ; $a = b ;")...)
		refuses(t, 0, api.ErrNamesNone, written(t, "$r > ;")...)
		refuses(t, 0, api.ErrNamesNone, written(t, "[$a] > ;")...)
		if got := fmt.Sprint(passes(t, sample(t))); got != want {
			t.Errorf("%s, not %s", got, want)
		}
		makes(t, nil, pass())
	}
}

// Lists that hold themselves, and long ones.
func TestEveryCallEnds(t *testing.T) { // R1
	for kind := -1; kind <= 9; kind++ {
		round := row(api.Item{Kind: kind, Key: 1, Unit: -1, Name: "none"})
		round[0].Parts = round
		if _, e := names.Set(round[0], known); (e == api.OK) != (kind == api.ItAny) {
			t.Errorf("kind %d: %d", kind, e)
		}
		names.Set(set(round...), known)
		for _, l := range []api.Line{define("v", round...), rule(round), rule(nil, round...), {Kind: api.LnRule, Ante: round}, {Kind: api.LnRule, Post: round}} {
			names.Passes([]api.Line{l})
		}
	}
	numbers := []int{math.MinInt, -1, 0, 1, math.MaxInt}
	for _, a := range numbers {
		for _, b := range numbers {
			i := api.Item{Kind: api.ItRange, Unit: a, Lo: a, Hi: b, Key: b}
			for kind := -1; kind <= 9; kind++ {
				i.Kind = kind
				names.Set(i, nil)
				names.Set(set(i), nil)
				names.Passes([]api.Line{{Kind: kind, At: a, Key: row(i), Result: row(i), Cursor: b}})
			}
		}
	}
	setIs(t, set(slices.Repeat(row(unit('a'), name("v"), upTo('x', 'z')), 50000)...), of('a', 'c', 'x', 'z'))
	makes(t, slices.Repeat([]api.Line{then()}, 50000), make([]api.Pass, 50001)...)
}

func TestSideBySide(t *testing.T) { // R4, R5
	l := sample(t)
	want := fmt.Sprint(passes(t, l))
	var all sync.WaitGroup
	for range 8 {
		all.Go(func() {
			for range 30 {
				p, line, e := names.Passes(l)
				if fmt.Sprint(p) != want || line != 0 || e != api.OK {
					t.Errorf("side by side: %v, %d, %d", p, line, e)
				}
				spoil(p)
				s, _ := names.Set(name("v"), known)
				spoilSet(s)
				setIs(t, set(name("v"), name("w")), of('a', 'c', 'w', 'w'))
				refuses(t, 1, api.ErrNamesTwice, define("v", unit('a')), define("v", unit('b')))
			}
		})
	}
	all.Wait()
}
