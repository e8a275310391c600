package need_test

import (
	"slices"
	"strings"
	"testing"

	"respell/api"
	"respell/match"
	"respell/need"
	"respell/utf"
)

// What follows: P14.3, P14.4; and what the steps of a run over a whole text say.

// long is a pass whose rules want as many units as they may.
func (m maker) long(most int) api.Pass {
	p := m.pass(most)
	for i := range p.Rules {
		r := &p.Rules[i]
		r.Key = append(r.Key, m.great(m.Intn(9-len(r.Key)))...)
		r.Post = append(r.Post, m.great(m.Intn(9-len(r.Post)))...)
		r.Ante = append(r.Ante, m.great(m.Intn(9-len(r.Ante)))...)
	}
	return p
}

// great is a row of sets that have nearly all units of the crowd.
func (m maker) great(n int) []api.Set {
	var l []api.Set
	for range n {
		l = append(l, pick(m, slices.Clone(all), m.some(len(crowd)-1-m.Intn(3), crowd)))
	}
	return l
}

func TestMoreBehind(t *testing.T) { // P14.3
	m := made(305)
	decided, rules := 0, 0
	for range 8000 {
		p := pick(m, m.pass, m.long)(4)
		done, back, known := m.place(p)
		n, is := need.Decide(p, done, back, known)
		if !is {
			continue
		}
		decided++
		if n >= 0 {
			rules++
		}
		for range 6 {
			more := m.text(5)
			if m.Intn(4) == 0 {
				b := make([]byte, m.Intn(6))
				m.Read(b)
				more = string(b)
			}
			asks(t, p, done, back, known+more, n)
		}
	}
	if decided < 2000 || rules < 500 {
		t.Errorf("%d are decided, %d by a rule: the passes are too tame or too wild", decided, rules)
	}
}

// wanted is the count of units that are enough.
func wanted(p api.Pass) int {
	most := 0
	for _, r := range p.Rules {
		n := len(r.Key) + len(r.Post)
		if r.End {
			n++
		}
		most = max(most, n)
	}
	return most
}

// filled is a text of so many bytes at least that one rule may fit at; cut off behind the last byte that is wanted.
func (m maker) filled(p api.Pass, n int) string {
	s := ""
	if len(p.Rules) > 0 {
		r := pick(m, p.Rules...)
		for _, x := range slices.Concat(r.Key, r.Post) {
			s += bytesOf(m.at(x))
		}
	}
	for len(s) < n {
		s += bytesOf(pick(m, crowd...))
	}
	return s[:n]
}

func TestEnoughIsKnown(t *testing.T) { // P14.4
	m := made(306)
	found := map[bool]int{}
	for range 6000 {
		p := pick(m, m.pass, m.long)(5)
		enough := max(4, 4*wanted(p))
		known := m.filled(p, enough+m.Intn(2)*m.Intn(6))
		done, back := m.numbers(9), m.numbers(pick(m, 0, 0, 3))
		now := stepByWords(p, done, back, known)
		found[now.rule >= 0]++
		asks(t, p, done, back, known, now.rule)
	}
	if found[true] < 1000 || found[false] < 1000 {
		t.Errorf("%v: the passes are too tame or too wild", found)
	}
}

func TestLessIsNotEnough(t *testing.T) { // P14.4
	wide := of(0x10000, maxRune)
	asks(t, api.Pass{}, nil, nil, "\xF0\x90\x80", open)
	for n := 1; n <= 16; n++ {
		r := api.Rule{Key: slices.Repeat(row(wide), min(n, 8)), Post: slices.Repeat(row(wide), n-min(n, 8))}
		known := strings.Repeat("\U0010FFFF", n)
		asks(t, rules(r), nil, nil, known[:4*n-1], open)
		asks(t, rules(r), nil, nil, known, 0)
		// With End all that the sets want is not enough.
		r.End = true
		asks(t, rules(r), nil, nil, known, open)
		asks(t, rules(r), nil, nil, known+"\U0010FFFF", -1)
	}
}

// Known bytes and units far away that no rule sees change nothing.
func TestFarAway(t *testing.T) { // P14.1
	m := made(307)
	far := strings.Repeat("aé€\U00010000\xE2", 4000)
	for range 300 {
		p := pick(m, m.pass, m.long)(5)
		done, back, known := m.place(p)
		now := stepByWords(p, done, back, known+far)
		asks(t, p, done, back, known+far, now.rule)
		asks(t, p, done, back, known+far+"\xE2\x82", now.rule)
		asks(t, p, append(slices.Repeat([]int{'a', 'b'}, 3000), done...), back, known+far, stepByWords(p, append([]int{'a', 'b', 'a', 'b', 'a', 'b', 'a', 'b', 'a', 'b'}, done...), back, known+far).rule)
		units := slices.Concat(back, unitsByWords(known+far))
		asks(t, p, done, units, "", now.rule)
		asks(t, p, done, units, "\xE2", now.rule)
	}
}

// There is a doubt just where a step is not decided.
func TestOneOfBoth(t *testing.T) { // P14.1, P14.2
	m := made(308)
	for range 8000 {
		p := pick(m, m.pass, m.long)(5)
		done, back, known := m.place(p)
		if m.Intn(4) == 0 {
			b := make([]byte, m.Intn(5))
			m.Read(b)
			known += string(b)
		}
		n, is := need.Decide(p, done, back, known)
		if !is {
			n = open
		}
		asks(t, p, done, back, known, n)
	}
}

// What is decided is the rule that is next over the whole text, at each place of it.
func TestDecidedAsFound(t *testing.T) { // P14.1, W4
	m := made(309)
	for range 1500 {
		p, text := m.pass(5), m.text(12)
		done := m.numbers(3)
		for n := range len(text) + 1 {
			rule, is := need.Decide(p, done, nil, text[:n])
			if is && rule != match.Find(p, done, utf.Cut(text)) {
				t.Errorf("%s, %v, %q of %q: %d", brief(p), done, text[:n], text, rule)
			}
		}
	}
}
