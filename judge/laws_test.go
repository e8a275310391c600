package judge_test

import (
	"slices"
	"testing"
	"unicode/utf8"

	"respell/api"
	"respell/weigh"
)

// What follows of the chapter's promise: P22.2, P22.3, over drawn passes.

// over is a set of units over which passes are drawn, and texts of so many at most.
type over struct {
	set  api.Set
	most int
}

// overs are sets of units of all widths, and of strays that make a rune.
var overs = []over{
	{setOf('a', 'b'), 6}, {setOf('a', 'b', 'c'), 4}, {setOf('a', 'b', a9, c3), 4}, {setOf('a', 0xE9, a9, c3), 4}, {setOf(0x1100E2, 0x110082, 0x1100AC), 5}, {setOf(0x20AC, 0x10001, 0x1100E2, 0x110082, 0x1100AC), 3}, {setOf('a', 0xFFFD, lastRaw), 4}, {setOf('a'), 24}, {mixed, 3},
}

// drawn gives pairs of passes over each of some sets: a drawn one, and one that is near it, or any other one.
func drawn(seed int64, many int, yield func(m maker, p, q api.Pass, o over, texts []string)) {
	for i, o := range overs {
		m := made(seed+int64(i), inOrder(o.set)...)
		texts := textsByWords(o.set, o.most)
		for n := range many {
			p := m.pass(pick(m, 1, 2, 4, 8))
			q := m.near(p)
			switch n % 8 {
			case 0:
				q = m.near(m.near(q))
			case 1:
				q = m.pass(4)
			case 2:
				q = m.alike(p)
			}
			yield(m, p, q, o, texts)
		}
	}
}

func TestDrawnPasses(t *testing.T) { // P22.1, P22.2
	t.Parallel()
	alike, lengths, strays := 0, map[int]int{}, 0
	drawn(2210, 300, func(m maker, p, q api.Pass, o over, texts []string) {
		got := differ(p, q, o.set, o.most)
		// False just where no text of all those differs; else the one that is told does, and none ahead of it.
		if want := firstByWords(t, p, q, texts); got != want {
			t.Fatalf("%s and %s over %s, %d: %v; want %v", brief(p), brief(q), brief(o.set), o.most, got, want)
		}
		if !got.is {
			alike++
			return
		}
		l := unitsByWords(got.s)
		lengths[len(l)]++
		if !utf8.ValidString(got.s) {
			strays++
		}
		if slices.ContainsFunc(l, func(u int) bool { return !slices.Contains(m.few, u) }) || len(l) > o.most || !unlike(t, p, q, got.s) {
			t.Fatalf("%s and %s over %s, %d: %v", brief(p), brief(q), brief(o.set), o.most, got)
		}
	})
	if alike < 800 || lengths[0] > 0 || lengths[1] < 200 || lengths[2] < 200 || lengths[3] < 200 || lengths[4] < 100 || strays < 200 {
		t.Errorf("%d pairs are alike, others differ at %v, %d of these at strays: the passes are too tame or too wild", alike, lengths, strays)
	}
}

func TestAPassIsLikeItself(t *testing.T) { // P22.3
	t.Parallel()
	drawn(2220, 40, func(m maker, p, q api.Pass, o over, texts []string) {
		for _, x := range []api.Pass{p, q} {
			if got := differ(x, x, o.set, o.most); got != same {
				t.Fatalf("%s over %s, %d: %v", brief(x), brief(o.set), o.most, got)
			}
		}
	})
}

func TestTheOtherWayAbout(t *testing.T) { // P22.3
	t.Parallel()
	drawn(2230, 80, func(m maker, p, q api.Pass, o over, texts []string) {
		if a, b := differ(p, q, o.set, o.most), differ(q, p, o.set, o.most); a != b {
			t.Fatalf("%s and %s over %s, %d: %v, and %v", brief(p), brief(q), brief(o.set), o.most, a, b)
		}
	})
}

func TestAGreaterMost(t *testing.T) { // P22.3
	t.Parallel()
	later := 0
	drawn(2240, 60, func(m maker, p, q api.Pass, o over, texts []string) {
		was := same
		for most := range o.most + 1 {
			got := differ(p, q, o.set, most)
			if was.is && got != was || got.is && len(unitsByWords(got.s)) > most {
				t.Fatalf("%s and %s over %s, %d: %v; with one less %v", brief(p), brief(q), brief(o.set), most, got, was)
			}
			// What is told first with a greater most has as many units.
			if got.is && !was.is && len(unitsByWords(got.s)) != most {
				t.Fatalf("%s and %s over %s, %d: %v", brief(p), brief(q), brief(o.set), most, got)
			}
			if got.is && !was.is && most > 1 {
				later++
			}
			was = got
		}
	})
	if later < 100 {
		t.Errorf("%d passes differ at longer texts alone: they are too wild", later)
	}
}

func TestAnotherPassThatDoesTheSame(t *testing.T) { // P22.3
	t.Parallel()
	others := 0
	drawn(2250, 60, func(m maker, p, q api.Pass, o over, texts []string) {
		like := m.alike(q)
		if _, e := weigh.Check(like); e != api.OK {
			return
		}
		if got := differ(q, like, o.set, o.most); got != same {
			t.Fatalf("%s and %s over %s, %d: %v", brief(q), brief(like), brief(o.set), o.most, got)
		}
		if a, b := differ(p, q, o.set, o.most), differ(p, like, o.set, o.most); a != b {
			t.Fatalf("%s and %s over %s, %d: %v; with %s %v", brief(p), brief(q), brief(o.set), o.most, a, brief(like), b)
		}
		others++
	})
	if others < 400 {
		t.Errorf("%d passes alone", others)
	}
}

func TestASmallerSet(t *testing.T) { // P22.2
	t.Parallel()
	stayed, gone := 0, 0
	drawn(2260, 60, func(m maker, p, q api.Pass, o over, texts []string) {
		got := differ(p, q, o.set, o.most)
		part := slices.DeleteFunc(slices.Clone(m.few), func(u int) bool { return m.Intn(3) == 0 })
		less := differ(p, q, setOf(part...), o.most)
		// If none is told of a set, none is of a part of it; and what is told stays told while the part has its units.
		switch has := !slices.ContainsFunc(unitsByWords(got.s), func(u int) bool { return !slices.Contains(part, u) }); {
		case has:
			stayed++
			if less != got {
				t.Fatalf("%s and %s over %s of %s, %d: %v; want %v", brief(p), brief(q), brief(part), brief(o.set), o.most, less, got)
			}
		default:
			gone++
			if less == got {
				t.Fatalf("%s and %s over %s of %s, %d: %v", brief(p), brief(q), brief(part), brief(o.set), o.most, less)
			}
		}
	})
	if stayed < 100 || gone < 50 {
		t.Errorf("%d stayed, %d are gone: the sets are too small or too great", stayed, gone)
	}
}

func TestAnyPassesAndTheirErrors(t *testing.T) { // P22.1: whatever is handed in
	t.Parallel()
	m := made(2270, 'a', 'b', a9, c3)
	codes := map[api.Errno]int{}
	pass := func() api.Pass {
		p := m.pass(3)
		switch m.Intn(6) {
		case 0:
			p.Rules = append(p.Rules, pick(m, illegal...).rules...)
		case 1:
			p.Rules = slices.Insert(p.Rules, 0, pick(m, illegal...).rules...)
		}
		return p
	}
	for range 6000 {
		p, q := pass(), pass()
		set, valid := pick(m, overs...).set, true
		if m.Intn(4) == 0 {
			set, valid = pick(m, noSets...), false
		}
		most := pick(m, 0, 1, 2, 3, 3, 4096, 30, pick(m, badMosts...))
		units := 0
		if valid {
			units = size(set)
		}
		if valid && units == 1 {
			most = min(most, 24)
		}
		want := answer{code: codeByWords(p, q, valid, units, most)}
		got := differ(p, q, set, most)
		codes[got.code]++
		if want.code == api.OK {
			want = firstByWords(t, p, q, textsByWords(set, most))
		}
		if got != want {
			t.Fatalf("%s and %s over %s, %d: %v; want %v", brief(p), brief(q), brief(set), most, got, want)
		}
	}
	for _, e := range []api.Errno{api.OK, api.ErrArg, api.ErrSetRow, api.ErrJudgeMany, api.ErrRuleKey, api.ErrRuleSet, api.ErrRuleMany, api.ErrRulePiece, api.ErrRuleCopy, api.ErrRulePair, api.ErrRuleCursor, api.ErrWeighBack, api.ErrWeighMost} {
		if codes[e] < 50 {
			t.Errorf("error %d: %d alone: %v", e, codes[e], codes)
		}
	}
}
