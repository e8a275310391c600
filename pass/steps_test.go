package pass_test

import (
	"fmt"
	"iter"
	"slices"
	"strings"
	"testing"

	"respell/api"
	"respell/pass"
)

// stepsOf is the iterator of a pass that may be.
func stepsOf(t *testing.T, p api.Pass, text string) iter.Seq[api.Step] {
	t.Helper()
	seq, e := pass.Steps(p, text)
	if seq == nil || e != api.OK {
		t.Fatalf("%.300s over %.60q: an iterator: %t, %d", fmt.Sprint(p), text, seq != nil, e)
	}
	return seq
}

// written is steps as the chapter writes them.
func written(l []api.Step) string {
	var parts []string
	for _, s := range l {
		parts = append(parts, fmt.Sprintf("%d: %d %d %d %d %d", s.Rule, s.Done, s.Left, s.Took, s.Laid, s.Back))
	}
	return strings.Join(parts, "; ")
}

func goesText(t *testing.T, rules, text, want string) {
	t.Helper()
	if got := written(slices.Collect(stepsOf(t, read(t, rules), text))); got != want {
		t.Errorf("%s over %q: %s; want %s", rules, text, got, want)
	}
}

// rulesText holds the rules of the steps alone against those that are wanted.
func rulesText(t *testing.T, rules, text string, want ...int) {
	t.Helper()
	var got []int
	for s := range stepsOf(t, read(t, rules), text) {
		got = append(got, s.Rule)
	}
	if !slices.Equal(got, want) {
		t.Errorf("%s over %q: %d; want %d", rules, text, got, want)
	}
}

func TestStepsExamples(t *testing.T) { // P10.2
	goesText(t, "a > x ; ab > y", "abaab", "1: 0 5 2 1 0; 0: 1 3 1 1 0; 1: 2 2 2 1 0")
	goesText(t, "ab > b | c ; c > d", "ab", "0: 0 2 2 1 1; 1: 1 1 1 1 0")
	rulesText(t, "x { a > x ; a > y", "aaxa", 1, 1, -1, 0)
	goesText(t, "a > ", "\xE2a\x82", "-1: 0 3 1 1 0; 0: 1 2 1 0 0; -1: 1 1 1 1 0")
	rulesText(t, "a } $ > z", "aa", -1, 0)
	goesText(t, "", "", "")
}

func TestStepsOfAllSizes(t *testing.T) { // P10.2: none, one and several are taken, laid and put back
	for _, x := range [][3]string{
		{"a > ", "a", "0: 0 1 1 0 0"}, {"a > x", "a", "0: 0 1 1 1 0"}, {"a > xyz", "a", "0: 0 1 1 3 0"},
		{"a > | x", "a", "0: 0 1 1 0 1; -1: 0 1 1 1 0"}, {"a > | xy", "a", "0: 0 1 1 0 2; -1: 0 2 1 1 0; -1: 1 1 1 1 0"}, {"a > xyz | vw", "a", "0: 0 1 1 3 2; -1: 3 2 1 1 0; -1: 4 1 1 1 0"}, {"a > x | v", "ab", "0: 0 2 1 1 1; -1: 1 2 1 1 0; -1: 2 1 1 1 0"},
		{"abc > ", "abcabc", "0: 0 6 3 0 0; 0: 0 3 3 0 0"}, {"abc > x", "abcabc", "0: 0 6 3 1 0; 0: 1 3 3 1 0"}, {"abc > xy | z", "abc", "0: 0 3 3 2 1; -1: 2 1 1 1 0"}, {"aa > | a", "aaa", "0: 0 3 2 0 1; 0: 0 2 2 0 1; -1: 0 1 1 1 0"},
		{"abcdefgh > 0123456789ABCDEF", "abcdefgh", "0: 0 8 8 16 0"}, {"a > 0123456789ABCDE | F", "a", "0: 0 1 1 15 1; -1: 15 1 1 1 0"},
		{"", "ab", "-1: 0 2 1 1 0; -1: 1 1 1 1 0"}, {"x > y ; y > z ; b > x", "ab", "-1: 0 2 1 1 0; 2: 1 1 1 1 0"},
		// Runes of several bytes are one unit, strays too.
		{"€ > é\\b{E2}", "€\U0010FFFF\xE2\x82", "0: 0 4 1 2 0; -1: 2 3 1 1 0; -1: 3 2 1 1 0; -1: 4 1 1 1 0"}, {"a > ", "\xE2a\x82\xAC", "-1: 0 4 1 1 0; 0: 1 3 1 0 0; -1: 1 2 1 1 0; -1: 2 1 1 1 0"},
		// Copies and pairs count as units do.
		{"[ab][cd] > @2 @1:[xy] | @2:[vw] z", "bd", "0: 0 2 2 2 2; -1: 2 2 1 1 0; -1: 3 1 1 1 0"},
		// What a rule takes and writes the same is still a rule's.
		{"a > a", "ba", "-1: 0 2 1 1 0; 0: 1 1 1 1 0"}, {". > @1", "\xFFé", "0: 0 2 1 1 0; 0: 1 1 1 1 0"},
	} {
		goesText(t, x[0], x[1], x[2])
	}
	p := api.Pass{Rules: []api.Rule{{Key: slices.Repeat(row(a), 8), Result: slices.Repeat(pieces(unit('b')), 16)}}}
	if got := slices.Collect(stepsOf(t, p, "aaaaaaaa")); len(got) != 17 || got[0] != (api.Step{Rule: 0, Left: 8, Took: 8, Back: 16}) || got[16] != (api.Step{Rule: -1, Done: 15, Left: 1, Took: 1, Laid: 1}) {
		t.Errorf("%v", got)
	}
}

func TestStepsOfTheLastRule(t *testing.T) { // P10.2
	p := api.Pass{}
	for n := range 256 {
		p.Rules = append(p.Rules, api.Rule{Key: row(of(n, n)), Result: pieces(unit(n), unit(n)), Cursor: 2})
	}
	var text strings.Builder
	for n := range 256 {
		text.WriteRune(rune(255 - n))
	}
	n := 0
	for s := range stepsOf(t, p, text.String()) {
		if s != (api.Step{Rule: 255 - n, Done: 2 * n, Left: 256 - n, Took: 1, Laid: 2}) {
			t.Errorf("%v at %d", s, n)
		}
		n++
	}
	if n != 256 {
		t.Errorf("%d steps", n)
	}
}

// lot is a pass and a text with many kinds of steps.
func lot(t *testing.T) (api.Pass, string, []api.Step) {
	p, text := read(t, "a > | bb ; b > | cc ; c > d ; xy > z | a ; d { \\b{80} > "), "axy\x80q\x80éxy\x80"
	l := slices.Collect(stepsOf(t, p, text))
	if len(l) != 28 || l[15].Rule != 4 || l[17].Rule != -1 {
		t.Fatalf("%d steps: %s", len(l), written(l))
	}
	return p, text, l
}

func TestIteratorsLeftEarly(t *testing.T) { // P10.2, R6
	p, text, want := lot(t)
	seq := stepsOf(t, p, text)
	for most := range len(want) + 2 {
		var got []api.Step
		if most > 0 {
			for s := range seq {
				got = append(got, s)
				if len(got) == most {
					break
				}
			}
		}
		if !slices.Equal(got, want[:min(most, len(want))]) {
			t.Errorf("the first %d: %s", most, written(got))
		}
	}
	for range seq {
		break
	}
	// One who has said no is not asked again.
	asked := 0
	seq(func(api.Step) bool { asked++; return asked < 3 })
	if asked != 3 {
		t.Errorf("asked %d times", asked)
	}
}

func TestIteratorsGoneThroughAgain(t *testing.T) { // P10.2, R6
	p, text, want := lot(t)
	seq := stepsOf(t, p, text)
	for range 4 {
		if got := slices.Collect(seq); !slices.Equal(got, want) {
			t.Errorf("%s", written(got))
		}
	}
}

func TestIteratorsGoneThroughWithinThemselves(t *testing.T) { // P10.2, R6
	p, text, want := lot(t)
	seq := stepsOf(t, p, text)
	var outer []api.Step
	for s := range seq {
		outer = append(outer, s)
		var inner []api.Step
		for r := range seq {
			inner = append(inner, r)
			if len(inner) == 3 {
				if third := slices.Collect(seq); !slices.Equal(third, want) {
					t.Errorf("the innermost at %d: %s", len(outer), written(third))
				}
			}
			if len(inner) == len(outer)+3 {
				break
			}
		}
		if !slices.Equal(inner, want[:min(len(outer)+3, len(want))]) {
			t.Errorf("the inner one at %d: %s", len(outer), written(inner))
		}
	}
	if !slices.Equal(outer, want) {
		t.Errorf("%s", written(outer))
	}
}

func TestIteratorsSideBySide(t *testing.T) { // P10.2, R6
	p, text, want := lot(t)
	q, other := read(t, "a > x ; ab > y"), "abaab"
	first, stopFirst := iter.Pull(stepsOf(t, p, text))
	defer stopFirst()
	second, stopSecond := iter.Pull(stepsOf(t, q, other))
	defer stopSecond()
	same := stepsOf(t, p, text)
	third, stopThird := iter.Pull(same)
	defer stopThird()
	fourth, stopFourth := iter.Pull(same)
	defer stopFourth()
	var l [4][]api.Step
	for n := range 2 * len(want) {
		for i, next := range []func() (api.Step, bool){first, second, third, fourth} {
			// The last one lags behind.
			if i == 3 && n%2 == 0 {
				continue
			}
			if s, is := next(); is {
				l[i] = append(l[i], s)
			}
		}
	}
	for _, i := range []int{0, 2, 3} {
		if !slices.Equal(l[i], want) {
			t.Errorf("%d: %s", i, written(l[i]))
		}
	}
	if got := written(l[1]); got != "1: 0 5 2 1 0; 0: 1 3 1 1 0; 1: 2 2 2 1 0" {
		t.Errorf("%s", got)
	}
}

func TestIteratorsOfNoSteps(t *testing.T) { // P10.2, R6: an iterator is never nil, but beside an error
	for _, rules := range []string{"", "a > b", "^ { . } $ > x"} {
		seq := stepsOf(t, read(t, rules), "")
		for s := range seq {
			t.Errorf("%s: a step, %v", rules, s)
		}
		if got := slices.Collect(seq); len(got) != 0 {
			t.Errorf("%s: %s", rules, written(got))
		}
	}
}
