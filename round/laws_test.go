package round_test

import (
	"slices"
	"strings"
	"testing"

	"respell/api"
	"respell/round"
	"respell/turn"
)

// What follows of the chapter's promises: P20.3 (W6), P20.4.

func TestSureTextsComeBack(t *testing.T) { // P20.3, W6
	isSure, strays, luck, parts, early, late, grew := 0, 0, 0, 0, 0, 0, 0
	for _, m := range []maker{made(311, 0), made(312, 3)} {
		for range 2500 {
			p := m.fine(pick(m, 1, 3, 6, 15))
			over, _, _ := turn.Over(p)
			turned, _, _ := turn.Turn(p)
			for range 8 {
				// What a rule writes may stand there already.
				l := m.units(pick(m, p, p, turned), pick(m, 4, 12, 40))
				if m.Intn(2) == 0 {
					l = slices.DeleteFunc(l, func(u int) bool { return !has(over, u) })
				}
				s := bytesOf(l...)
				comes, sure := told(t, p, s)
				back := backOf(t, p, s)
				if comes.is != (back == s) || comes.code != api.OK || sure.code != api.OK || sure.is && back != s {
					t.Fatalf("%s over %q, which becomes %q: %v, %v", brief(p), s, back, comes, sure)
				}
				switch {
				case sure.is:
					isSure++
				case comes.is:
					luck++
				case comes.at == 0:
					early++
				case comes.at == min(len(back), len(s)):
					late++
				default:
					parts++
				}
				if sure.is && strings.ContainsRune(s, 0xFFFD) {
					strays++
				}
				if len(back) > len(s) {
					grew++
				}
			}
		}
	}
	if strays < 15000 || luck < 4000 || parts < 2000 || early < 1000 || late < 25 || grew < 1000 {
		t.Errorf("%d are sure, %d of these have strays, %d come back for all that; of the others %d part at once, %d at an end, %d elsewhere, and %d grew: the passes are too tame or too wild", isSure, strays, luck, early, late, parts, grew)
	}
}

// All short texts over some units, so that none is too rare to come by chance.
func TestAllShortTexts(t *testing.T) { // P20.1 to P20.4
	for text, few := range map[string][]string{
		"a > b ; b > a":                     {"a", "b", "\xC3", "\xA9", "é"},
		abc:                                 {"a", "b", "x", "y", "\xE2"},
		"é > è ; \\b{C3} > \\x{C3}":         {"é", "è", "\xC3", "\xA9", "\xA8"},
		"x1 > x ; 2 { y } $ > yz":           {"x", "1", "2", "y", "z"},
		"\\b{E2}\\b{82} > € ; a > xé":       {"\xE2", "\x82", "\xAC", "é", "x"},
		"^ { a > xx ; a } $ > xy ; aa > ya": {"a", "x", "y"},
		"a > \\x{FFFD} ; \\b{EF} > \\x{EF}": {"\xEF", "\xBF", "\xBD", "a", "\u00EF"},
	} {
		p := read(t, text)
		texts := []string{""}
		came, lost := 0, 0
		for range 6 {
			var longer []string
			for _, s := range texts {
				if comes, _ := told(t, p, s); comes.is {
					came++
				} else {
					lost++
				}
				for _, x := range few {
					longer = append(longer, s+x)
				}
			}
			texts = longer
		}
		if text != "a > b ; b > a" && lost == 0 || came == 0 {
			t.Errorf("%s: %d texts come back, %d don't", text, came, lost)
		}
	}
}

func TestTheEmptyText(t *testing.T) { // P20.4
	fine, code := 0, map[api.Errno]int{}
	for _, m := range []maker{made(313, 0), made(314, 1), made(315, 4)} {
		for range 2000 {
			p := m.pass(6)
			comes, sure := told(t, p, "")
			if comes != sure || comes.is != (comes.code == api.OK) {
				t.Fatalf("%s: %v, %v", brief(p), comes, sure)
			}
			code[comes.code]++
			if comes.is {
				fine++
			}
		}
	}
	if fine < 1500 || len(code) < 8 {
		t.Errorf("%d passes are taken; errors: %v", fine, code)
	}
}

func TestSureHangsOnTheUnitsAlone(t *testing.T) { // P20.4
	is, not := 0, 0
	m := made(316, 0)
	for range 1500 {
		p := m.fine(5)
		l := m.units(p, 12)
		// As they are told of their text: strays may come together, and then they are others.
		l = unitsByWords(bytesOf(l...))
		want, e := round.Sure(p, bytesOf(l...))
		if e != api.OK {
			t.Fatalf("%s: %d", brief(p), e)
		}
		if want {
			is++
		} else {
			not++
		}
		for range 8 {
			// In another order; some of them more than once.
			other := slices.Clone(l)
			for range m.Intn(4) {
				if len(l) > 0 {
					other = append(other, pick(m, l...))
				}
			}
			m.Shuffle(len(other), func(i, j int) { other[i], other[j] = other[j], other[i] })
			if s := bytesOf(other...); slices.Equal(unitsByWords(s), other) {
				if got, e := round.Sure(p, s); got != want || e != api.OK {
					t.Fatalf("%s over %q: %t, %d; over %q %t", brief(p), s, got, e, bytesOf(l...), want)
				}
			}
		}
	}
	if is < 300 || not < 300 {
		t.Errorf("%d are sure, %d are not: the passes are too tame or too wild", is, not)
	}
	for _, s := range []string{"abdé\xE2", "\xE2édba", "dé\xE2ab", "aabbddéé\xE2\xE2", "\xE2\xE2\xE2dabé"} {
		sure(t, abc, s, true)
	}
	for _, s := range []string{"abdéx\xE2", "x\xE2édba", "dé\xE2abx", "aabbddéxé\xE2\xE2", "xxx\xE2xdabé"} {
		sure(t, abc, s, false)
	}
	// The same bytes in another order may be other units.
	sure(t, "a > é", "\xA9\xC3", true)
	sure(t, "a > é", "\xC3\xA9", false)
}

func TestAnyPassesAndTexts(t *testing.T) { // P20.1, P20.2
	code := map[api.Errno]int{}
	for _, m := range []maker{made(317, 1), made(318, 3), made(319, 8)} {
		for range 3000 {
			p := m.pass(pick(m, 1, 2, 5))
			comes, _ := told(t, p, bytesOf(m.units(api.Pass{}, 12)...))
			code[comes.code]++
		}
	}
	for _, e := range []api.Errno{api.OK, api.ErrRuleSet, api.ErrRuleCursor, api.ErrTurnResult, api.ErrTurnMany, api.ErrTurnTwice, api.ErrTurnPrefix, api.ErrTurnContext} {
		if code[e] < 80 {
			t.Errorf("%d passes with error %d: %v", code[e], e, code)
		}
	}
}

func TestLongDrawnTexts(t *testing.T) { // P20.1 to P20.3
	m := made(320, 0)
	code := map[answer]int{}
	for range 60 {
		p := m.fine(8)
		over, _, _ := turn.Over(p)
		l := m.units(p, 20000)
		if m.Intn(2) == 0 {
			l = slices.DeleteFunc(l, func(u int) bool { return !has(over, u) })
		}
		comes, _ := told(t, p, bytesOf(l...))
		comes.at = 0
		code[comes]++
	}
	if code[answer{is: true}] < 10 || code[answer{}] < 5 || code[answer{code: api.ErrLong}] < 5 {
		t.Errorf("too tame or too wild: %v", code)
	}
}
