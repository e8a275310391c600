package edit_test

import (
	"strings"
	"testing"

	"respell/api"
)

// What is done anew: rules that look ahead and behind, that want the beginning or the end, that put units back.

func TestLookingAhead(t *testing.T) { // P16.4
	// Steps that are not decided by what both have in common are done anew, though they be the same.
	goes(t, "abc > x", "abab", change{4, 4, "d", block(4, 4, 4, 5), "ababd", "ababd", 3})
	goes(t, "abc > x", "abab", change{4, 4, "c", block(2, 4, 2, 3), "ababc", "abx", 1})
	goes(t, "a } bb > x", "abaabb",
		change{4, 5, "c", block(3, 5, 3, 5), "abaacb", "abaacb", 2},
		change{4, 5, "b", block(3, 5, 3, 5), "abaabb", "abaxbb", 2},
		change{6, 6, "b", block(6, 6, 6, 7), "abaabbb", "abaxbbb", 1})
	goes(t, "a } b > x ; a > y", "ac", change{1, 1, "b", block(0, 1, 0, 2), "abc", "xbc", 2})
	// What is known decides a step with a part of a rune.
	goes(t, "a } . > x", "a€", change{3, 4, "\xAD", block(3, 4, 3, 4), "a\u20AD", "x\u20AD", 1})
	goes(t, "a } [€] > x", "a€", change{3, 4, "\xAD", block(0, 4, 0, 4), "a\u20AD", "a\u20AD", 2})
	goes(t, "a } é > x", "a€", change{3, 4, "\xAD", block(3, 4, 3, 4), "a\u20AD", "a\u20AD", 1})
}

func TestLookingBehind(t *testing.T) { // P16.4
	// The rest alone is not enough: what is ahead must be the same, as far as a rule sees it.
	goes(t, "x { a > x ; a > y", "baaa",
		change{0, 1, "x", block(0, 4, 0, 4), "xaaa", "xxxx", 4},
		change{2, 2, "b", block(2, 4, 2, 5), "xabaa", "xxbyy", 3},
		change{0, 1, "c", block(0, 2, 0, 2), "cabaa", "cybyy", 3})
	goes(t, "xx { a > b", "ccccc", change{0, 1, "d", block(0, 1, 0, 1), "dcccc", "dcccc", 3})
	goes(t, "xxxxxxxx { a > b", "cccccccccc", change{0, 1, "d", block(0, 1, 0, 1), "dccccccccc", "dccccccccc", 9})
	goes(t, "xxxxxxxx { a > b", "cccccccc", change{0, 1, "d", block(0, 1, 0, 1), "dccccccc", "dccccccc", 8})
	// Fewer units than a rule sees are another tail than as many.
	goes(t, "xx { a > b", "cccc", change{0, 0, "c", block(4, 4, 4, 5), "ccccc", "ccccc", 1})
	goes(t, "xx { a > b", "dccc", change{0, 1, "", block(0, 1, 0, 0), "ccc", "ccc", 2})
	goes(t, "xx { a > b", "cdccc", change{0, 1, "", block(0, 1, 0, 0), "dccc", "dccc", 2})
	// What is done is not the source: other units may have become the same.
	goes(t, "[bc] > d ; x { a > y", "baa", change{0, 1, "c", block(3, 3, 3, 3), "caa", "daa", 1})
	goes(t, "[bc] > ; x { a > y", "xbaa", change{1, 2, "c", block(3, 3, 3, 3), "xcaa", "xya", 1})
	// Of the greatest ante, whichever rule has it.
	goes(t, "x { a > b ; xyz { a > c ; z { a > d", "ccccc", change{0, 1, "e", block(0, 1, 0, 1), "ecccc", "ecccc", 4})
	goes(t, "c > q", "ccccc", change{0, 1, "e", block(0, 1, 0, 1), "ecccc", "eqqqq", 1})
}

func TestTheBeginningIsWanted(t *testing.T) { // P16.4
	// One unit more than the ante has tells whether it is the beginning.
	goes(t, "^ { a > A", "aaa",
		change{0, 0, "b", block(0, 1, 0, 2), "baaa", "baaa", 3},
		change{0, 1, "", block(0, 2, 0, 1), "aaa", "Aaa", 2},
		change{0, 0, "a", block(3, 3, 3, 4), "aaaa", "Aaaa", 1},
		change{1, 2, "", block(3, 4, 3, 3), "aaa", "Aaa", 0},
		change{0, 1, "c", block(0, 1, 0, 1), "caa", "caa", 2},
		change{0, 1, "ed", block(0, 1, 0, 2), "edaa", "edaa", 3})
	goes(t, "^ x { a > A", "cccc", change{0, 1, "d", block(0, 1, 0, 1), "dccc", "dccc", 3})
	goes(t, "^ x { a > B ; x { a > A", "xaa", change{0, 0, "b", block(0, 2, 0, 3), "bxaa", "bxAa", 4})
	// Where nothing was laid, it is the beginning still.
	goes(t, "b > ; ^ { a > A", "ba", change{0, 0, "bb", block(1, 1, 1, 1), "bbba", "A", 2})
	goes(t, "b > ; ^ { a > A", "ca", change{0, 1, "b", block(0, 2, 0, 1), "ba", "A", 2})
	goes(t, "^ xxxxxxxx { a > b", strings.Repeat("c", 12), change{0, 1, "d", block(0, 1, 0, 1), "d" + strings.Repeat("c", 11), "d" + strings.Repeat("c", 11), 10})
}

func TestTheEndIsWanted(t *testing.T) { // P16.4
	goes(t, "a } $ > z", "aaa",
		change{3, 3, "a", block(2, 2, 2, 3), "aaaa", "aaaz", 1},
		change{3, 4, "", block(2, 3, 2, 2), "aaa", "aaz", 0},
		change{3, 3, "b", block(2, 3, 2, 4), "aaab", "aaab", 2},
		change{0, 0, "a", block(3, 3, 3, 4), "aaaab", "aaaab", 1},
		change{4, 5, "", block(3, 5, 3, 4), "aaaa", "aaaz", 1},
		change{0, 1, "", block(2, 3, 2, 2), "aaa", "aaz", 0})
	goes(t, "a } bb $ > z", "cabb", change{0, 1, "d", block(0, 1, 0, 1), "dabb", "dzbb", 1}, change{4, 4, "b", block(1, 2, 1, 3), "dabbb", "dabbb", 2})
	goes(t, "^ { a } $ > z", "a", change{0, 0, "b", block(0, 1, 0, 2), "ba", "ba", 2}, change{0, 1, "", block(0, 2, 0, 1), "a", "z", 1})
}

func TestPutBack(t *testing.T) { // P16.4
	// Where units that were put back are left, nothing meets.
	goes(t, "a > | bb ; b > c", "aaa", change{1, 2, "d", block(2, 4, 2, 3), "ada", "ccdcc", 1})
	goes(t, "a > | bb ; b > c", "ada", change{1, 2, "a", block(2, 3, 2, 4), "aaa", "cccccc", 3})
	goes(t, "ab > b | c ; cd > e", "abdx",
		change{2, 3, "", block(1, 2, 1, 2), "abx", "bcx", 1},
		change{2, 2, "d", block(1, 2, 1, 2), "abdx", "bex", 1},
		change{0, 1, "", block(1, 2, 1, 2), "bdx", "bdx", 2})
	// Behind the steps that are decided it is not clean, and so it goes on to where it is.
	goes(t, "a > | bc ; bcx > y", "aq", change{1, 2, "r", block(2, 3, 2, 3), "ar", "bcr", 3})
	goes(t, "x . > | x", "xaaaa",
		change{3, 3, "b", block(1, 1, 1, 1), "xaabaa", "x", 4},
		change{6, 6, "c", block(1, 1, 1, 1), "xaabaac", "x", 2},
		change{0, 1, "", block(0, 1, 0, 6), "aabaac", "aabaac", 6})
	// What was put back stays units, whatever bytes stand behind it.
	goes(t, `a > | \b{E2} \b{82} ; € > E ; \b{E2} \b{82} \b{AC} > S`, "a",
		change{1, 1, "\xAC", block(0, 2, 0, 1), "a\xAC", "S", 1},
		change{0, 1, "\xE2\x82", block(0, 1, 0, 1), "€", "E", 1})
}

func TestNeverMeet(t *testing.T) { // P16.4
	// Up to the end, which has another tail.
	goes(t, "x { a > x ; a > y", "xaaaa", change{0, 1, "b", block(0, 5, 0, 5), "baaaa", "byyyy", 5})
	goes(t, "aa > b", "aaaaa", change{0, 0, "a", block(2, 3, 2, 3), "aaaaaa", "bbb", 1})
	goes(t, "aa > b ; q { x > y", "aaaaaa", change{0, 1, "c", block(0, 3, 0, 4), "caaaaa", "cbba", 4})
	// Pairs of a text that is one unit shorter end elsewhere, but for the end.
	goes(t, "aa > b", "caaaaaac", change{0, 1, "ca", block(4, 4, 4, 5), "caaaaaaac", "cbbbac", 1})
	goes(t, "aa > b", "aaaaaac", change{0, 0, "d", block(0, 0, 0, 1), "daaaaaac", "dbbbc", 1})
	goes(t, "aa > b", "aaaaaac", change{0, 0, "da", block(0, 3, 0, 5), "daaaaaaac", "dbbbac", 5})
	// No text to meet with.
	goes(t, "z { a > b", "", change{0, 0, "abc", block(0, 0, 0, 3), "abc", "abc", 3}, change{0, 3, "", block(0, 3, 0, 0), "", "", 0})
	// The old state must be behind as many steps as are ahead, too.
	goes(t, "", "aaaa", change{2, 2, "aa", block(4, 4, 4, 6), "aaaaaa", "aaaaaa", 2}, change{2, 4, "", block(4, 6, 4, 4), "aaaa", "aaaa", 0})
	goes(t, "a > ", "aaaa", change{2, 2, "aa", block(0, 0, 0, 0), "aaaaaa", "", 2})
}

// All that stands with an error: also what was done anew by the Edit ahead.
func TestErrorsChangeNothing(t *testing.T) { // P16.3
	x := goes(t, "a > b", "xaya", change{1, 2, "aaa", block(2, 2, 2, 4), "xaaaya", "xbbbyb", 2})
	for range 3 {
		denies(t, x, 7, 7, "a", api.ErrEditPlace)
		denies(t, x, 0, 7, "a", api.ErrEditPlace)
		denies(t, x, 3, 2, "a", api.ErrEditPlace)
		denies(t, x, -1, 2, "a", api.ErrEditPlace)
		denies(t, x, 0, 0, strings.Repeat("a", maxText-5), api.ErrLong)
		is(t, x, "xaaaya", "xbbbyb", 2)
	}
	if b, e := x.Edit(6, 6, "a"); b != block(6, 6, 6, 7) || e != api.OK {
		t.Error(b, e)
	}
	is(t, x, "xaaayaa", "xbbbybb", 1)
}

// A long text with a change far from its beginning: what is done anew are few steps.
func TestOnlyTheNeighbourhood(t *testing.T) { // P16.4
	p := read(t, "a > x ; ab > y ; xx { c > | de ; d } e > f ; c } $ > g")
	text := strings.Repeat("abcaac\xE2é", 1600)
	for _, at := range []int{0, 10, 8000, len(text) - 10} {
		x := begin(t, p, text)
		if _, e := x.Edit(at, at+1, "b"); e != api.OK || x.Redone() > 6 {
			t.Errorf("at %d: %d steps, %d", at, x.Redone(), e)
		}
		// As often as steps are done, and need is asked, memory is made: far less than for all of the text.
		n := 0
		put := func() {
			n++
			if _, e := x.Edit(at, at+1, "ab"[n%2:n%2+1]); e != api.OK {
				t.Fatal(e)
			}
		}
		if most := testing.AllocsPerRun(10, put); most > 5000 {
			t.Errorf("at %d: memory is made %v times", at, most)
		}
	}
}
