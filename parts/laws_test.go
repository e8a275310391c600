package parts_test

import (
	"slices"
	"strings"
	"testing"

	"respell/api"
	"respell/parts"
	"respell/pass"
	"respell/utf"
)

// What follows of the chapter's promises: P17.4, P17.5.

// anew tells whether a pass begins anew at a border of a text: whether what it makes of the text is what it makes of the bytes ahead, and behind it what it makes of the unit ahead and all behind, less that unit.
func anew(t *testing.T, s string, at int, run func(s string) (string, api.Errno)) bool {
	t.Helper()
	_, n := utf.Last(s[:at])
	unit := s[at-n : at]
	var made []string
	for _, x := range []string{s, s[:at], unit + s[at:]} {
		text, e := run(x)
		if e != api.OK {
			t.Fatalf("over %.90q: %d", x, e)
		}
		made = append(made, text)
	}
	return strings.HasPrefix(made[2], unit) && made[0] == made[1]+made[2][n:]
}

func TestBeginsAnew(t *testing.T) { // P17.4
	long(t)
	here, there, runes, strays := 0, 0, 0, 0
	for _, m := range []maker{made(181, 0, 0), made(182, 5, 0), made(183, 1, 0)} {
		for range 500 {
			p, s := m.fine(pick(m, 3, 6, 20)), m.text(30)
			workers := 1 + m.Intn(16)
			byRules := func(s string) (string, api.Errno) { return pass.Run(p, s) }
			byParts := func(s string) (string, api.Errno) { return parts.Run(p, s, workers) }
			places := safe(t, p, s)
			for _, at := range places {
				here++
				if u, n := utf.Last(s[:at]); u > maxRune {
					strays++
				} else if n > 1 {
					runes++
				}
				if !anew(t, s, at, byRules) {
					t.Fatalf("%s over %q: not anew at %d", brief(p), s, at)
				}
				if m.Intn(4) == 0 && !anew(t, s, at, byParts) {
					t.Fatalf("%s over %q by %d: not anew at %d", brief(p), s, workers, at)
				}
			}
			// At other borders it does not hold, so that this tells places that are safe from others.
			for at := range utf.All(s) {
				if at > 0 && !slices.Contains(places, at) && !anew(t, s, at, byRules) {
					there++
				}
			}
		}
	}
	if here < 5000 || there < 2000 || runes < 1500 || strays < 1500 {
		t.Errorf("%d places that are safe, %d behind runes of several bytes, %d behind strays; %d others at which no pass begins anew: the passes are too tame or too wild", here, runes, strays, there)
	}
}

func TestBeginsAnewInLongTexts(t *testing.T) { // P17.4
	m := made(184, 5, 0)
	here := 0
	for range 40 {
		p, s := m.fine(10), m.text(600)
		for _, at := range safe(t, p, s) {
			if m.Intn(10) == 0 {
				here++
				if !anew(t, s, at, func(s string) (string, api.Errno) { return pass.Run(p, s) }) {
					t.Fatalf("%s over %q: not anew at %d", brief(p), s, at)
				}
			}
		}
	}
	if here < 300 {
		t.Errorf("only %d places", here)
	}
}

// Each way in which a rule could look over a safe place, and does not.
func TestNothingLooksOverASafePlace(t *testing.T) { // P17.4
	for _, text := range []string{
		"^ { a > A", "a } $ > A", "^ { a } $ > A", "^ a { a > A", "a } a $ > A", "a } b > x", "a { b > x", "ab > x", "aab > x ; a > y", "a > | bb ; b > ", "b > ; ^ { a > A", "b > ; a } $ > A", "^ { a > ; a > x", "a > q", "[ab] > @1:[qr]", "[a-b] > | @1:[qr]", "x { a > x ; b > x",
	} {
		p := read(t, text)
		for _, quiet := range []string{".", "é", "€", "\U0010FFFF", "\xE2", "\x82", "q"} {
			for _, ahead := range []string{"", "a", "aa", "ab", "b", "ba", "aab", "\xE2a", "a."} {
				for _, behind := range []string{"a", "aa", "ab", "b", "ba", "bb", "aab", "a\x82", "a."} {
					s := ahead + quiet + behind
					at := len(ahead) + len(quiet)
					if !slices.Contains(safe(t, p, s), at) {
						t.Errorf("%s over %q: %d is not safe", text, s, at)
					}
					if !anew(t, s, at, func(s string) (string, api.Errno) { return pass.Run(p, s) }) {
						t.Errorf("%s over %q: not anew at %d", text, s, at)
					}
					same(t, p, s, 1, 2, 16)
				}
			}
		}
	}
}

func TestWithoutRulesEachBorderIsSafe(t *testing.T) { // P17.5
	m := made(185, 0, 0)
	for n := range 1500 {
		m.fine(0)
		b := make([]byte, n%40)
		m.Read(b)
		for _, s := range []string{string(b), m.text(40)} {
			var want []int
			for at := 1; at < len(s); at++ {
				if utf.Border(s, at) {
					want = append(want, at)
				}
			}
			for _, p := range []api.Pass{{}, {Rules: []api.Rule{}}} {
				tells(t, p, s, want...)
				if got := same(t, p, s, 1+m.Intn(16)); got != s {
					t.Errorf("%q: %q", s, got)
				}
			}
		}
	}
	tells(t, api.Pass{}, strings.Repeat("a", 16384), places(16384, 1)...)
	tells(t, api.Pass{}, strings.Repeat("\xFF", 16384), places(16384, 1)...)
	tells(t, api.Pass{}, strings.Repeat("\U0010FFFF", 4096), places(4096, 4)...)
}

func TestWithASetOfAllUnitsNoneIs(t *testing.T) { // P17.5
	m := made(186, 0, 0)
	for range 1500 {
		p := m.fine(6)
		with := api.Rule{Key: row(a)}
		switch m.Intn(4) {
		case 0:
			with.Key = row(all)
		case 1:
			with.Key = append(with.Key, all)
		case 2:
			with.Ante = row(a, all, a)
		case 3:
			with.Post = row(a, all)
		}
		p.Rules = slices.Insert(slices.Clone(p.Rules), m.Intn(len(p.Rules)+1), with)
		s := m.text(40)
		tells(t, p, s)
		same(t, p, s, 1+m.Intn(16))
	}
	// All units may be in several sets together, too.
	halves := rules(api.Rule{Key: row(of(0, 'a')), Post: row(of('b', 0xD7FF))}, api.Rule{Key: row(a), Ante: row(of(0xE000, maxRune), of(firstRaw, lastRaw))})
	tells(t, halves, "ab\uE000€\xE2\uD7FF")
	tells(t, rules(halves.Rules[0]), "ab\uE000€\xE2\uD7FF", 5, 9)
}

func TestByteForByte(t *testing.T) { // W1: a pass none of whose sets has a unit of the text
	m := made(187, 0, 0)
	p := read(t, "\\x{E001} > x ; ^ { \\x{E002} > ; \\x{E003} } $ > | yy")
	for range 1000 {
		m.fine(0)
		s := m.text(60)
		tells(t, p, s, safeByWords(api.Pass{}, s)...)
		if got := same(t, p, s, 1+m.Intn(16)); got != s {
			t.Errorf("%q: %q", s, got)
		}
	}
}
