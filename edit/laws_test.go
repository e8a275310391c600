package edit_test

import (
	"slices"
	"strings"
	"testing"

	"respell/api"
	"respell/edit"
	"respell/machine"
	"respell/pass"
)

// What follows: P16.6 to P16.8.

func TestAnyChanges(t *testing.T) { // P16.6, W5
	m := made(176)
	for range 400 {
		p := m.any(8)
		x := begin(t, p, m.text(40))
		source := x.Source()
		for range 25 {
			from, to, b := m.change(source)
			if len(source) > 150 {
				from, to, b = 20, len(source)-20, ""
			}
			if _, e := x.Edit(from, to, b); e != api.OK {
				t.Fatal(e)
			}
			source = source[:from] + b + source[to:]
			if want, e := pass.Run(p, source); x.Source() != source || x.Result() != want || e != api.OK {
				t.Fatalf("%s: %q: %q; want %q: %q", brief(p), x.Source(), x.Result(), source, want)
			}
		}
	}
}

// However a text came to be what it is, it answers all that comes as a new one does.
func TestNoTraceOfEarlierChanges(t *testing.T) { // P16.4, P16.6, R5
	m := made(177)
	for range 500 {
		p := m.any(8)
		x := begin(t, p, m.text(60))
		for range 12 {
			from, to, b := m.change(x.Source())
			if len(x.Source()) > 300 {
				from, to, b = 0, 200, ""
			}
			fresh := begin(t, p, x.Source())
			want, e := fresh.Edit(from, to, b)
			if got, f := x.Edit(from, to, b); got != want || f != e || e != api.OK {
				t.Fatalf("%s: Edit(%d, %d, %q): %v, %d; want %v, %d", brief(p), from, to, b, got, f, want, e)
			}
			is(t, x, fresh.Source(), fresh.Result(), fresh.Redone())
		}
	}
}

// A text that is written a byte at a time, and taken away again.
func TestByteByByte(t *testing.T) { // P16.6, W5
	m := made(178)
	for range 150 {
		p, text := m.any(8), m.text(25)
		front, back := begin(t, p, ""), begin(t, p, "")
		holds := func() {
			for _, x := range []*edit.Text{front, back} {
				if want, _ := pass.Run(p, x.Source()); x.Result() != want {
					t.Fatalf("%s over %q: %q, not %q", brief(p), x.Source(), x.Result(), want)
				}
			}
		}
		for i := range len(text) {
			front.Edit(i, i, text[i:i+1])
			back.Edit(0, 0, text[len(text)-1-i:len(text)-i])
			holds()
		}
		if front.Source() != text || back.Source() != text {
			t.Fatalf("%q: %q, %q", text, front.Source(), back.Source())
		}
		for range len(text) {
			front.Edit(0, 1, "")
			back.Edit(len(back.Source())-1, len(back.Source()), "")
			holds()
		}
		is(t, front, "", "", front.Redone())
		is(t, back, "", "", back.Redone())
	}
}

func TestLongTexts(t *testing.T) { // P16.6, W2
	m := made(179)
	for range 10 {
		p := m.any(20)
		text := ""
		for len(text) < 15000 {
			text += m.text(500)
		}
		ready, e := machine.New(p)
		if e != api.OK {
			t.Fatalf("%s: %d", brief(p), e)
		}
		x := begin(t, p, text)
		for range 40 {
			from, to, b := m.change(text)
			if len(text)-(to-from)+len(b) > maxText {
				denies(t, x, from, to, b, api.ErrLong)
				continue
			}
			if _, e := x.Edit(from, to, b); e != api.OK {
				t.Fatal(e)
			}
			text = text[:from] + b + text[to:]
			if want, e := ready.Run(text); x.Source() != text || x.Result() != want || e != api.OK {
				t.Fatalf("%s: %d bytes, not %d, %d", brief(p), len(x.Result()), len(want), e)
			}
		}
	}
}

// stepsOf is the steps of a run, as chapter 10 tells them.
func stepsOf(t *testing.T, p api.Pass, s string) []api.Step {
	t.Helper()
	steps, e := pass.Steps(p, s)
	if e != api.OK {
		t.Fatal(e)
	}
	return slices.Collect(steps)
}

// alike tells whether steps are the same, but how many units were done.
func alike(a, b []api.Step) bool {
	return slices.EqualFunc(a, b, func(x, y api.Step) bool {
		x.Done, y.Done = 0, 0
		return x == y
	})
}

func TestFromThereOnAlike(t *testing.T) { // P16.7
	m := made(180)
	met := 0
	for range 1500 {
		p := m.any(8)
		x := start(t, p, m.text(30))
		for range 4 {
			old, before := x.run, x.source
			from, to, b := m.change(x.source)
			x.put(t, from, to, b)
			ahead := aheadByWords(p, x.run, inCommon(before, x.source))
			o, n, is := meeting(p, old, x.run, ahead)
			if !is {
				continue
			}
			if n != ahead+x.Redone() {
				t.Fatalf("%d, not %d and %d", n, ahead, x.Redone())
			}
			was, now := stepsOf(t, p, before), stepsOf(t, p, x.source)
			if !slices.EqualFunc(was[:ahead], now[:ahead], func(x, y api.Step) bool { x.Left, y.Left = 0, 0; return x == y }) {
				t.Fatalf("%s, %q and %q: %d steps ahead: %v, %v", brief(p), before, x.source, ahead, was, now)
			}
			if !alike(was[o:], now[n:]) {
				t.Fatalf("%s, %q and %q: %v, %v", brief(p), before, x.source, was[o:], now[n:])
			}
			// So what they lay is the same, too.
			last, first := resultByWords(old)[len(bytesOf(old[o].done...)):], x.Result()[len(bytesOf(x.run[n].done...)):]
			if last != first {
				t.Fatalf("%s, %q and %q: %q, %q", brief(p), before, x.source, last, first)
			}
			if n < len(now) {
				met++
			}
		}
	}
	if met < 1000 {
		t.Errorf("%d met: the passes are too tame or too wild", met)
	}
}

func TestTheSameBytesAnywhere(t *testing.T) { // P16.8
	m := made(181)
	for range 800 {
		p := m.any(8)
		x := begin(t, p, m.text(30))
		for range 6 {
			source, result := x.Source(), x.Result()
			n := len(result)
			from := m.Intn(len(source) + 1)
			to := from + m.Intn(len(source)-from+1)
			if got, e := x.Edit(from, to, source[from:to]); got != block(n, n, n, n) || e != api.OK || x.Source() != source || x.Result() != result {
				t.Fatalf("%s, %q: Edit(%d, %d): %v, %d", brief(p), source, from, to, got, e)
			}
			from, to, b := m.change(source)
			x.Edit(from, to, b)
		}
	}
}

// What is told to have changed is all that has: the answer makes the new result of the old one.
func TestTheAnswerMakesTheResult(t *testing.T) { // P16.2
	m := made(182)
	for range 800 {
		x := begin(t, m.any(8), m.text(30))
		for range 6 {
			o := x.Result()
			from, to, b := m.change(x.Source())
			k, e := x.Edit(from, to, b)
			if n := x.Result(); e != api.OK || k.S0 != k.R0 || o[:k.S0]+n[k.R0:k.R1]+o[k.S1:] != n {
				t.Fatalf("%q became %q: %v, %d", o, n, k, e)
			}
		}
	}
}

func TestByteForByte(t *testing.T) { // P16.2, W1
	m := made(183)
	for _, text := range []string{"", "\\x{E000} > x", "\\x{E000} a > x ; \\x{E000} { a > y"} {
		x := begin(t, read(t, text), "")
		for range 800 {
			b := make([]byte, m.Intn(12))
			m.Read(b)
			from := m.Intn(len(x.Source()) + 1)
			to := min(len(x.Source()), from+m.Intn(14))
			if _, e := x.Edit(from, to, string(b)); e != api.OK || x.Result() != x.Source() {
				t.Fatalf("%q: %q, %d", x.Source(), x.Result(), e)
			}
		}
	}
}

// A change at the one end of a text that is one block from its beginning to its end.
func TestOneGreatBlock(t *testing.T) { // P16.4, P16.6
	p := read(t, "x . > | x ; xx > | x")
	text := "x" + strings.Repeat("ab", 4000)
	x := begin(t, p, text)
	is(t, x, text, "x", 0)
	for _, c := range []struct{ from, to, redone int }{{8001, 8001, 2}, {8000, 8001, 3}, {1, 2, 8002}} {
		if b, e := x.Edit(c.from, c.to, "c"); b != block(1, 1, 1, 1) || e != api.OK || x.Redone() != c.redone {
			t.Errorf("%v: %v, %d, %d", c, b, e, x.Redone())
		}
	}
	if b, e := x.Edit(0, 1, ""); b != block(0, 1, 0, 8001) || e != api.OK || x.Result() != x.Source() {
		t.Error(b, e)
	}
}
