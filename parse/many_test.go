package parse_test

import (
	"strings"
	"testing"

	"respell/api"
)

// Rows of 512, and of one more: P5.1.

// rowsOfSides are texts that stand ahead of a row of items, and what makes a line of it behind.
var rowsOfSides = []struct{ ahead, behind string }{
	{"", "{ > ;"}, {"^ ", "{ > ;"}, {"", "> ;"}, {"", "} $ > ;"}, {"{ ", "> ;"}, {"a b { ", "} > ;"}, {"^ { ", "> ;"}, {"} ", "> ;"}, {"a { b } ", "$ > ;"}, {"a > b ;} ", "> ;"},
}

var rowsOfPieces = []struct{ ahead, behind string }{{"> ", ";"}, {"> ", "| ;"}, {"> | ", ";"}, {"a { b } c $ > ", ";"}}

var rowsOfParts = []struct{ ahead, behind string }{
	{"[ ", "] > ;"}, {"[^ ", "] > ;"}, {"[a] [ ", "] { > ;"}, {"{ [ ", "] > ;"}, {"} [^ ", "] > ;"}, {"$v = [ ", "] ;"}, {"> @1:[ ", "] ;"}, {"> a | @2:[^ ", "] ;"},
}

var manySides = []string{"a ", "$v ", "[:x:] ", ". ", "[] ", "[^a-b c] ", `\b{80} `, "# ;\na\n"}

var manyPieces = []string{"a ", "@1 ", "@1:. ", "@2:$v ", "@3 : [^a-b c] ", `\; `}

var manyParts = []string{"a ", "a-b ", "$v ", "[:x:] ", `\b{80} - \b{80}`}

// holdsMany wants 512 of each to be read, whatever they are, and one more to be refused at its first token, whatever it is and whatever stands behind it.
func holdsMany(t *testing.T, ahead, behind string, good, last []string) {
	t.Helper()
	var mixed strings.Builder
	for i := range 512 {
		mixed.WriteString(good[i%len(good)] + " ")
	}
	for _, full := range []string{strings.Repeat(good[0], 512), strings.Repeat(good[1], 512), mixed.String()} {
		if l := lines(t, ahead+full+behind); len(l) == 0 {
			t.Errorf("512 behind %q: nothing", ahead)
		}
		for _, x := range last {
			refused(t, ahead+full+x, len(ahead+full), api.ErrParseMany)
			refused(t, ahead+full+x+behind, len(ahead+full), api.ErrParseMany)
			refused(t, ahead+full+x+"; ; ;", len(ahead+full), api.ErrParseMany)
		}
	}
}

func TestManySides(t *testing.T) { // P5.1
	// What begins an item is refused as such, though it could become none.
	last := []string{"a", "$v", "[:x:]", ".", "[", "[b-a]", "[;", "a-b", "$v = "}
	for _, w := range rowsOfSides {
		holdsMany(t, w.ahead, w.behind, manySides, last)
	}
}

func TestManyPieces(t *testing.T) { // P5.1
	last := []string{"a", "@1", "@1:", "@1:a", "@1:[b-a]", "a | |"}
	for _, w := range rowsOfPieces {
		holdsMany(t, w.ahead, w.behind, manyPieces, last)
	}
}

func TestManyParts(t *testing.T) { // P5.1
	last := []string{"a", "a-", "b-a", `a-\b{80}`, "$v", "[:x:]", "a-$v"}
	for _, w := range rowsOfParts {
		holdsMany(t, w.ahead, w.behind, manyParts, last)
	}
}

func TestTheCursorIsNoPiece(t *testing.T) { // P5.1
	half := strings.Repeat("@1 ", 256)
	l := lines(t, "> "+half+"| "+half+";")
	if len(l) != 1 || len(l[0].Result) != 512 || l[0].Cursor != 256 {
		t.Error("512 pieces about the sign are not read so")
	}
	refused(t, "> "+half+"| "+half+"@1:b ;", 4+2*len(half), api.ErrParseMany)
	refused(t, "> "+half+"| "+half+"| ;", 4+2*len(half), api.ErrParseWant)
	refused(t, "> "+half+half+"| a ;", 4+2*len(half), api.ErrParseMany)
}

func TestRowsAreCountedEachForItself(t *testing.T) { // P5.1
	full := strings.Repeat("a", 512)
	l := lines(t, "^"+full+"{"+full+"}"+full+"$>"+full+";["+full+"]["+full+"]>@1:["+full+"]@1:["+full+"];")
	if len(l) != 2 {
		t.Fatal("full rows are not read")
	}
	for _, r := range [][]api.Item{l[0].Ante, l[0].Key, l[0].Post, l[0].Result, l[1].Key[0].Parts, l[1].Key[1].Parts, l[1].Result[0].Parts[0].Parts, l[1].Result[1].Parts[0].Parts} {
		if len(r) != 512 {
			t.Errorf("a row of %d", len(r))
		}
	}
	// A set is one item of its row, however many parts it has.
	l = lines(t, strings.Repeat("["+strings.Repeat("a", 50)+"]", 512)+">;")
	if len(l) != 1 || len(l[0].Key) != 512 || len(l[0].Key[511].Parts) != 50 {
		t.Error("512 sets are not read so")
	}
}

func TestWhatBeginsNoItemIsNotOneTooMany(t *testing.T) { // P5.1
	full := strings.Repeat("a ", 512)
	for _, w := range []struct{ ahead, behind string }{
		{"", "@1"}, {"", "]"}, {"", "-"}, {"", "="}, {"", ";"}, {"", "$"}, {"", "^"}, {"", "|"}, {"", ""}, {"^ ", "> ;"}, {"{ ", "{"}, {"} ", "}"}, {"} ", "$;"},
		{"> ", "$v ;"}, {"> ", ". ;"}, {"> ", "[b-a] ;"}, {"> ", "[:x:] ;"}, {"> ", ">"}, {"> | ", "|"}, {"> ", ""},
		{"[", "."}, {"[", "["}, {"[", "@1"}, {"[", "^"}, {"[", ";"}, {"[", ""}, {"[^", "[b-a]"},
	} {
		place := len(w.ahead + full)
		if strings.HasPrefix(w.behind, "$;") {
			place++
		}
		refused(t, w.ahead+full+w.behind, place, api.ErrParseWant)
	}
}

func TestWhatShowsAheadOfMany(t *testing.T) { // P5.1
	many := strings.Repeat("a", 600)
	refused(t, "; "+many, 0, api.ErrParseWant)
	refused(t, "[b-a] "+many, 1, api.ErrParseRange)
	refused(t, "["+many[:512]+"] [b-a] "+many, 516, api.ErrParseRange)
	refused(t, "["+many[:511]+"c-a "+many, 512, api.ErrParseRange)
	refused(t, many[:511]+"[b-a] a", 512, api.ErrParseRange)
	refused(t, "a > "+many[:511]+"@1:a a", 4+511+3, api.ErrParseWant)
	refused(t, many+"[b-a]", 512, api.ErrParseMany)
	refused(t, many+";", 512, api.ErrParseMany)
}
