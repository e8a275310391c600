package parse_test

import (
	"reflect"
	"strings"
	"sync"
	"testing"
	"unsafe"

	"respell/api"
	"respell/parse"
)

// What holds everywhere: R1 to R5.

const sample = good + exampleText

// spoil writes into all lists of lines, at every depth, the spare room too.
func spoil(l []api.Line) {
	l = l[:cap(l)]
	for i := range l {
		for _, r := range [][]api.Item{l[i].Ante, l[i].Key, l[i].Post, l[i].Result} {
			spoilRow(r)
		}
		l[i] = api.Line{Kind: -1, At: -1, Name: "spoilt", Begin: true, End: true, Cursor: -1, Key: []api.Item{{Kind: -1}}}
	}
}

func spoilRow(l []api.Item) {
	l = l[:cap(l)]
	for i := range l {
		spoilRow(l[i].Parts)
		l[i] = api.Item{Kind: -1, Unit: -1, Name: "spoilt", Lo: -1, Hi: -2, Not: true, Key: -1}
	}
}

func TestWhatIsToldIsTheCallers(t *testing.T) { // R4
	earlier, want := lines(t, sample), tidy(lines(t, sample))
	for range 3 {
		spoil(lines(t, sample))
		l := lines(t, sample)
		spoil(append(l, api.Line{}))
		spoil(l)
		reads(t, sample, want...)
		reads(t, "a > b ;", rule(units("a"), units("b")))
	}
	if !same(earlier, want) {
		t.Errorf("an earlier answer: %v", earlier)
	}
}

// room is where a list lies, its spare room too.
type room struct{ from, to uintptr }

func roomsOf(l []api.Line) []room {
	rooms := []room{roomOf(l)}
	for _, x := range l {
		for _, r := range [][]api.Item{x.Ante, x.Key, x.Post, x.Result} {
			rooms = append(rooms, roomsOfRow(r)...)
		}
	}
	return rooms
}

func roomsOfRow(l []api.Item) []room {
	rooms := []room{roomOf(l)}
	for _, x := range l {
		rooms = append(rooms, roomsOfRow(x.Parts)...)
	}
	return rooms
}

func roomOf[T any](l []T) room {
	var x T
	from := uintptr(unsafe.Pointer(unsafe.SliceData(l)))
	return room{from, from + uintptr(cap(l))*unsafe.Sizeof(x)}
}

func TestNoTwoListsShareRoom(t *testing.T) { // R4
	full := strings.Repeat("a", 512)
	for _, s := range []string{sample, "a{b}c>d;", "abc{d}e>f;", "abcde{fgh}i>jkl|m;", "ab{}>|;", "a{>;b{>;", "^" + full + "{" + full + "}" + full + ">" + full + ";", "[a]{[a]}[a]>@1:[a]|@1:[a];$v=[a];$v=[a];"} {
		rooms := append(roomsOf(lines(t, s)), roomsOf(lines(t, s))...)
		for i, a := range rooms {
			for _, b := range rooms[:i] {
				if a.from < b.to && b.from < a.to {
					t.Errorf("%.100q: two lists share room", s)
				}
			}
		}
	}
}

// roomy is a copy of a list with spare room behind it that has something in it.
func roomy(l []api.Item) []api.Item {
	var out []api.Item
	for _, x := range l {
		if x.Parts != nil {
			x.Parts = roomy(x.Parts)
		}
		out = append(out, x)
	}
	return append(out, api.Item{Kind: 99}, api.Item{Kind: 98})[:len(out)]
}

// seen are lines with all that stands in their spare room.
func seen(l []api.Line) []api.Line {
	var out []api.Line
	for _, x := range l[:cap(l)] {
		x.Ante, x.Key, x.Post, x.Result = seenRow(x.Ante), seenRow(x.Key), seenRow(x.Post), seenRow(x.Result)
		out = append(out, x)
	}
	return out
}

func seenRow(l []api.Item) []api.Item {
	var out []api.Item
	for _, x := range l[:cap(l)] {
		x.Parts = seenRow(x.Parts)
		out = append(out, x)
	}
	return out
}

func TestWhatIsHandedInStays(t *testing.T) { // R4
	for _, s := range goodTexts {
		var l []api.Line
		for _, x := range lines(t, s) {
			x.Ante, x.Key, x.Post, x.Result = roomy(x.Ante), roomy(x.Key), roomy(x.Post), roomy(x.Result)
			l = append(l, x)
		}
		for range 3 {
			before := seen(l)
			text, err := parse.Print(l)
			if err != api.OK || !reflect.DeepEqual(before, seen(l)) {
				t.Errorf("%q: printed %d, and changed", s, err)
			}
			spoil(lines(t, text))
			if !reflect.DeepEqual(before, seen(l)) {
				t.Errorf("%q: kept", s)
			}
			l = append(l, api.Line{Kind: 2, Key: roomy(units("ab")), Result: roomy(row(pair(1, set(upTo('a', 'b'))))), Cursor: 1})
		}
	}
}

func TestWhatWasPrintedStays(t *testing.T) { // R4
	l := lines(t, sample)
	s, _ := parse.Print(l)
	want := strings.Clone(s)
	spoil(l)
	parse.Print(l)
	if s != want {
		t.Errorf("%q has become %q", want, s)
	}
}

func TestNothingBesideAnError(t *testing.T) { // R2
	for _, s := range []string{sample + "a", sample + ";", sample + "[b-a]", sample + strings.Repeat("a", 513), sample + ",", strings.Repeat(sample, 1000)} {
		if l, f := parse.Parse(s); len(l) != 0 || f.Code == api.OK {
			t.Errorf("%.100q: %d lines, %v", s, len(l), f)
		}
	}
	for _, bad := range []api.Line{{}, rule(manyOf(513, unit('a')), nil), rule(row(set(upTo('b', 'a'))), nil)} {
		if s, err := parse.Print(append(lines(t, sample), bad)); s != "" || err == api.OK {
			t.Errorf("%v: %q, %d", bad, s, err)
		}
	}
}

func TestFaultsLeaveNoTrace(t *testing.T) { // R5
	want := lines(t, sample)
	for _, s := range []string{",", ";", "a", "^", "[b-a", strings.Repeat("a", 600), "then", "[", "$v =", strings.Repeat(" ", 40000)} {
		parse.Parse(s)
		parse.Print([]api.Line{{Kind: 9}})
		reads(t, sample, want...)
		prints(t, "^ x [^a-c $v] { a b } . $ > @1:[x-z] | c ;\n", exampleLine())
	}
}

// Long texts of one token, and lists that hold themselves.
func TestEveryCallEnds(t *testing.T) { // R1
	for _, s := range tokenTexts {
		for _, ahead := range []string{"", "[", "$v=[", "^", ">", ">@1:", "a>;"} {
			parse.Parse(ahead + strings.Repeat(s, 5000))
			parse.Parse(ahead + strings.Repeat(s+" ", 5000))
		}
	}
	for _, kind := range []int{api.ItSet, api.ItPair} {
		round := row(api.Item{Kind: kind, Key: 1})
		round[0].Parts = round
		for _, k := range []int{0, 1} {
			round[0].Key = k
			unprinted(t, api.ErrParseWant, rule(round, nil))
			unprinted(t, api.ErrParseWant, rule(nil, round))
		}
	}
}

func TestSideBySide(t *testing.T) { // R4, R5
	shared := lines(t, sample)
	want, text := tidy(shared), ""
	text, _ = parse.Print(shared)
	var all sync.WaitGroup
	for range 8 {
		all.Go(func() {
			for range 50 {
				reads(t, sample, want...)
				prints(t, text, shared...)
				unprinted(t, api.ErrParseWant, api.Line{})
				l, f := parse.Parse("[c-a] > ;")
				if len(l) != 0 || f != (api.Fault{At: 1, Code: api.ErrParseRange}) {
					t.Errorf("side by side: %v", f)
				}
				spoil(lines(t, sample))
			}
		})
	}
	all.Wait()
}
