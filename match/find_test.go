package match_test

import (
	"fmt"
	"slices"
	"strings"
	"testing"

	"respell/api"
	"respell/match"
	"respell/rule"
	"respell/utf"
)

func finds(t *testing.T, p api.Pass, done, left []int, want int) {
	t.Helper()
	if got := match.Find(p, done, left); got != want {
		t.Errorf("%.300s between %.90s and %.90s: %d, not %d", fmt.Sprint(p), fmt.Sprint(done), fmt.Sprint(left), got, want)
	}
}

// findsText holds a pass against rows of places, | between what is done and what is left.
func findsText(t *testing.T, text string, want int, places ...string) {
	t.Helper()
	p := read(t, text)
	for _, place := range places {
		done, left, is := strings.Cut(place, "|")
		if !is {
			t.Fatalf("%s: no gap in %q", text, place)
		}
		if got := match.Find(p, utf.Cut(done), utf.Cut(left)); got != want {
			t.Errorf("%s at %q: %d, not %d", text, place, got, want)
		}
	}
}

func TestFindExamples(t *testing.T) { // P9.2
	findsText(t, "a > x ; ab > y ;", 1, "|ab")
	findsText(t, "a > x ; ab > y ;", 0, "|ac")
	findsText(t, "a > x ; ab > y ;", -1, "|b", "|")
	findsText(t, "x { a > p ; a > q ;", 0, "x|a")
	findsText(t, "x { a > p ; a > q ;", 1, "xy|a")
	findsText(t, "^ x { a > p ;", 0, "x|a")
	findsText(t, "^ x { a > p ;", -1, "xx|a")
	findsText(t, "a } b $ > p ;", 0, "|ab")
	findsText(t, "a } b $ > p ;", -1, "|abc", "|a")
	findsText(t, ". > p ; a > q ;", 0, "|a")
}

func TestNoRules(t *testing.T) { // P9.2
	for _, p := range []api.Pass{{}, {Rules: []api.Rule{}}} {
		finds(t, p, nil, nil, -1)
		finds(t, p, nil, []int{'a'}, -1)
		finds(t, p, []int{'a'}, []int{'a', -1}, -1)
	}
}

func TestNoRuleFits(t *testing.T) { // P9.2
	findsText(t, "a > x ; b } c > y ; x { d > z ; ^ { e > p ; f } $ > q", -1, "|", "a|", "|x", "|b", "|bb", "|d", "y|d", "xy|d", "x|e", "|ff", "|xa", "|\xE2")
	findsText(t, "a > x ; b } c > y ; x { d > z ; ^ { e > p ; f } $ > q", 1, "|bc")
	findsText(t, "a > x ; b } c > y ; x { d > z ; ^ { e > p ; f } $ > q", 2, "yx|d")
	findsText(t, "a > x ; b } c > y ; x { d > z ; ^ { e > p ; f } $ > q", 3, "|ee")
	findsText(t, "a > x ; b } c > y ; x { d > z ; ^ { e > p ; f } $ > q", 4, "f|f")
	for _, u := range noUnits {
		finds(t, api.Pass{Rules: []api.Rule{{Key: row(all)}, {Key: row(all, all)}}}, []int{u}, []int{u, 'a'}, -1)
		finds(t, api.Pass{Rules: []api.Rule{{Key: row(all, all)}, {Key: row(all)}}}, []int{u}, []int{'a', u}, 1)
	}
}

func TestTheLongestKey(t *testing.T) { // P9.2
	// In whatever order they stand.
	whole := "abcdefgh"
	for _, order := range [][]int{{1, 2, 3, 4, 5, 6, 7, 8}, {8, 7, 6, 5, 4, 3, 2, 1}, {4, 8, 1, 6, 2, 7, 3, 5}} {
		var p api.Pass
		for _, n := range order {
			p.Rules = append(p.Rules, api.Rule{Key: letters(whole[:n])})
		}
		for n := range 9 {
			finds(t, p, nil, utf.Cut(whole[:n]+"x"), slices.Index(order, n))
			finds(t, p, []int{'a'}, utf.Cut(whole[:n]), slices.Index(order, n))
		}
		finds(t, p, nil, utf.Cut(whole+"ij"), slices.Index(order, 8))
	}
}

func TestTheFirstOfTheLongest(t *testing.T) { // P9.2
	findsText(t, "a > 0 ; ab > 1 ; a > 2 ; ab > 3 ; [ab]b > 4 ; a > 5", 1, "|ab", "|abc")
	findsText(t, "a > 0 ; ab > 1 ; a > 2 ; ab > 3 ; [ab]b > 4 ; a > 5", 4, "|bb")
	findsText(t, "a > 0 ; ab > 1 ; a > 2 ; ab > 3 ; [ab]b > 4 ; a > 5", 0, "|ac", "|a")
	findsText(t, "abc > 0 ; [ab]bc > 1 ; abc > 2", 0, "|abc")
	findsText(t, "xbc > 0 ; [ab]bc > 1 ; abc > 2", 1, "|abc")
	l := slices.Repeat([]api.Rule{{Key: row(a, a)}}, 256)
	finds(t, api.Pass{Rules: l}, nil, []int{'a', 'a'}, 0)
	for _, n := range []int{0, 1, 100, 255} {
		one := slices.Repeat([]api.Rule{{Key: letters("ab")}}, 256)
		one[n] = api.Rule{Key: row(a, a)}
		finds(t, api.Pass{Rules: one}, nil, []int{'a', 'a'}, n)
		one[n] = api.Rule{Key: letters("aba")}
		finds(t, api.Pass{Rules: one}, nil, utf.Cut("abab"), n)
	}
}

func TestContextsMakeNoKeyLonger(t *testing.T) { // P9.2
	findsText(t, "a > 0 ; x { a } bc > 1 ; ^ x { a } bc $ > 2", 0, "x|abc")
	findsText(t, "x { a } b > 0 ; ab > 1", 1, "x|ab", "|ab")
	findsText(t, "x { a } b > 0 ; [ac] > 1", 0, "x|ab")
	findsText(t, "[ac] > 0 ; x { a } b > 1", 0, "x|ab", "x|a")
}

func TestALongerKeyWhoseContextDoesNotStand(t *testing.T) { // P9.2
	text := "x { abc > 0 ; ab } y > 1 ; ^ { abcd > 2 ; ab } $ > 3 ; a > 4 ; a } b > 5"
	findsText(t, text, 2, "|abcd", "|abcde")
	findsText(t, text, 0, "x|abcd", "x|abc", "yx|abcy")
	findsText(t, text, 4, "|abc", "|a", "y|abcd", "xy|abc", "x|ac", "|ax")
	findsText(t, text, 1, "|aby", "x|abyz")
	findsText(t, text, 3, "|ab", "x|ab")
}

func TestTooManyRules(t *testing.T) { // P9.2
	good := api.Rule{Key: row(a)}
	for n, want := range map[int]int{1: 0, 255: 0, 256: 0, 257: -1, 512: -1, 65537: -1} {
		finds(t, api.Pass{Rules: slices.Repeat([]api.Rule{good}, n)}, nil, []int{'a'}, want)
	}
}

func TestPassesThatMayNotBe(t *testing.T) { // P9.2
	good := read(t, "a > b ; aa > c ; x { aaa > d").Rules
	done, left := []int{'x'}, slices.Repeat([]int{'a'}, 10)
	finds(t, api.Pass{Rules: good}, done, left, 2)
	for _, r := range refused {
		for n := range len(good) + 1 {
			finds(t, api.Pass{Rules: slices.Insert(slices.Clone(good), n, r)}, done, left, -1)
		}
		finds(t, api.Pass{Rules: []api.Rule{r}}, done, left, -1)
		l := slices.Repeat(good[:1], 256)
		l[255] = r
		finds(t, api.Pass{Rules: l}, done, left, -1)
	}
}

func TestPassesThatMightNotEnd(t *testing.T) { // P9.2: rule.All is asked, and weigh.Check is not
	findsText(t, "a > | a ; ab > | ba", 1, "|ab")
	findsText(t, "a > | a ; ab > | ba", 0, "|a")
	findsText(t, "ab > | @1 @1", 0, "x|abc")
	p := read(t, "a > | a")
	if _, e := rule.All(p); e != api.OK {
		t.Fatal(e)
	}
}
