package parts_test

import (
	"fmt"
	"math"
	"runtime"
	"slices"
	"strings"
	"sync"
	"testing"
	"time"

	"respell/api"
	"respell/parts"
	"respell/weigh"
)

// What holds everywhere: R1 to R5, R8; and P17.3.

func TestEveryCallEnds(t *testing.T) { // R1, R2, R8
	numbers := []int{math.MinInt, math.MinInt + 1, -1, 0, 1, 2, 'a', maxRune, firstRaw, math.MaxInt - 1, math.MaxInt}
	fine := 0
	for _, x := range numbers {
		for _, y := range numbers {
			for kind := -1; kind <= 4; kind++ {
				for _, s := range []api.Set{abc, of(x, y), of(x, x, y, y), of('a', 'c', x, y), nil} {
					r := api.Rule{Ante: row(abc), Key: row(abc, s), Post: row(s), Result: pieces(api.Piece{Kind: kind, Unit: x, Key: y, To: s}), Cursor: y}
					p := rules(r, api.Rule{Key: row(abc), Result: pieces(api.Piece{Kind: kind, Key: x, To: abc}), Cursor: x})
					q := rules(api.Rule{Key: row(abc, s), Post: row(s), Result: pieces(unit(max(x, 'x')), again(1), paired(1, s)), Cursor: 3}, api.Rule{Key: row(s), Result: pieces(api.Piece{Kind: kind}), Cursor: 1})
					for _, p := range []api.Pass{p, q} {
						if _, e := weigh.Check(p); e != api.OK {
							refuses(t, p, "abc abc\xE2", 1, e)
							refuses(t, p, "abc abc\xE2", x, e)
							continue
						}
						fine++
						safe(t, p, "abc abc\xE2a")
						same(t, p, "abc abc\xE2a", 1, 3)
					}
				}
			}
		}
	}
	if fine < 50 {
		t.Errorf("only %d passes may be", fine)
	}
	for _, n := range []int{257, 100000} {
		great := api.Rule{Ante: slices.Repeat(row(a), n), Key: slices.Repeat(row(a), n), Post: slices.Repeat(row(a), n)}
		refuses(t, rules(great), "a b", 1, api.ErrRuleKey)
		refuses(t, rules(slices.Repeat([]api.Rule{great}, n)...), "a b", 1, api.ErrRuleMany)
	}
}

func TestNilAndEmptyAreTheSame(t *testing.T) { // R3
	for _, text := range []string{"", "a > b ; c > ", "ab > | bb", "^ { a } $ > x", "a } b > x ; a > @1"} {
		p := read(t, text)
		q := api.Pass{Rules: append([]api.Rule{}, p.Rules...)}
		for i, r := range q.Rules {
			r.Ante, r.Post = append([]api.Set{}, r.Ante...), append([]api.Set{}, r.Post...)
			r.Result = append([]api.Piece{}, r.Result...)
			for k := range r.Result {
				r.Result[k].To = api.Set{}
			}
			q.Rules[i] = r
		}
		for _, s := range []string{"", "a", "abcac\xE2", "ab c ab"} {
			if l, k := safe(t, p, s), safe(t, q, s); !slices.Equal(l, k) {
				t.Errorf("%s over %q: %v, and %v", text, s, l, k)
			}
			if x, y := same(t, p, s, 1, 2), same(t, q, s, 1, 2); x != y {
				t.Errorf("%s over %q: %q, and %q", text, s, x, y)
			}
		}
	}
}

// roomy is a copy of a list with spare room behind it that has something in it.
func roomy[T any](l []T, spare T) []T {
	return append(slices.Clone(l), spare, spare, spare)[:len(l)]
}

func roomySets(l []api.Set) []api.Set {
	out := roomy(l, of(-7, -8))
	for i, s := range out {
		out[i] = roomy(s, api.Range{Lo: -7, Hi: -8})
	}
	return out
}

func roomyPass(p api.Pass) api.Pass {
	p.Rules = roomy(p.Rules, api.Rule{Cursor: -7})
	for i, r := range p.Rules {
		r.Ante, r.Key, r.Post, r.Result = roomySets(r.Ante), roomySets(r.Key), roomySets(r.Post), roomy(r.Result, unit(-7))
		for k, x := range r.Result {
			r.Result[k].To = roomy(x.To, api.Range{Lo: -7, Hi: -8})
		}
		p.Rules[i] = r
	}
	return p
}

// seen tells all that stands in the lists of a pass, the spare room too.
func seen(p api.Pass) string {
	var b strings.Builder
	for _, r := range p.Rules[:cap(p.Rules)] {
		fmt.Fprint(&b, r)
		for _, l := range [][]api.Set{r.Ante, r.Key, r.Post} {
			for _, s := range l[:cap(l)] {
				fmt.Fprint(&b, s[:cap(s)])
			}
		}
		for _, x := range r.Result[:cap(r.Result)] {
			fmt.Fprint(&b, x, x.To[:cap(x.To)])
		}
	}
	return b.String()
}

func TestWhatIsHandedInStays(t *testing.T) { // R4
	long(t)
	for _, wrong := range []int{0, 20} {
		m := made(191, 10, wrong)
		for range 400 {
			p := m.pass(8)
			if wrong == 0 {
				p = m.fine(8)
			}
			p = roomyPass(p)
			before := seen(p)
			s := m.text(30)
			parts.Safe(p, s)
			parts.Run(p, s, 1+m.Intn(16))
			if seen(p) != before {
				t.Fatalf("what was handed in has changed: %s", brief(p))
			}
			parts.Run(p, s, 17)
			parts.Run(p, strings.Repeat("a", 16385), 1)
			if seen(p) != before {
				t.Fatalf("what was handed in has changed: %s", brief(p))
			}
		}
	}
}

// spoiled writes other things into all lists of a pass, the spare room too.
func spoiled(p api.Pass) {
	for i, r := range p.Rules {
		for _, l := range [][]api.Set{r.Ante, r.Key, r.Post} {
			for _, s := range l {
				for k := range s[:cap(s)] {
					s[:cap(s)][k] = api.Range{Lo: 0, Hi: 0xD7FF}
				}
			}
		}
		for k := range r.Result {
			r.Result[k] = unit('!')
		}
		p.Rules[i] = api.Rule{Key: row(all), Result: pieces(unit('!'))}
	}
}

func TestWhatIsHandedInIsNotKept(t *testing.T) { // R4
	m := made(192, 5, 0)
	for range 300 {
		p, s := roomyPass(m.fine(6)), m.text(40)
		other := roomyPass(p)
		places, text := safe(t, p, s), same(t, p, s, 2)
		kept := slices.Clone(places)
		spoiled(p)
		if !slices.Equal(places, kept) {
			t.Fatalf("%s: %v became %v", brief(other), kept, places)
		}
		if got := safe(t, other, s); !slices.Equal(got, kept) {
			t.Fatalf("%s: %v, and %v later", brief(other), kept, got)
		}
		if got := same(t, other, s, 2); got != text {
			t.Fatalf("%s: %q, and %q later", brief(other), text, got)
		}
	}
}

func TestAnswersAreNewMemory(t *testing.T) { // R4
	for _, rules := range []string{"", "a > b", "é > ; a } b > x"} {
		p := read(t, rules)
		for _, s := range []string{"", "a", "ab..", "a b a é b", strings.Repeat("ab ", 5461)} {
			first, second := safe(t, p, s), safe(t, p, s)
			want := slices.Clone(first)
			spoil(first)
			if !slices.Equal(second, want) {
				t.Errorf("%s over %.60q: two answers share memory", rules, s)
			}
			third := safe(t, p, s)
			spoil(second)
			spoil(third)
			safe(t, p, s)
			same(t, p, s, 1, 16)
		}
	}
}

func spoil(l []int) {
	l = l[:cap(l)]
	for i := range l {
		l[i] = -7
	}
}

func TestOneAnswer(t *testing.T) { // R5: earlier calls are not seen
	good := read(t, "^ { a > | bb ; b > c ; x { é > ; a } $ > Z")
	const text, want = "axé ab xé a", "ccx ac x Z"
	for _, rules := range []string{"", "a > b ; é > x", "^ { . > a", "c > | dddd ; x > | c", "a > | a"} {
		other := read(t, rules)
		for _, s := range []string{"", text, "cab\xE2", strings.Repeat("a", 16385), strings.Repeat("a ", 3000)} {
			for _, n := range []int{-1, 0, 1, 3, 16, 17} {
				parts.Safe(other, s)
				parts.Run(other, s, n)
				parts.Run(good, s, n)
				if got := same(t, good, text, 1+len(s)%16); got != want {
					t.Errorf("behind %s over %.60q: %q, not %q", rules, s, got, want)
				}
				tells(t, good, text, 5, 8, 12)
			}
		}
	}
}

func TestOneAnswerHoweverOften(t *testing.T) { // P17.3, R5
	m := made(193, 5, 0)
	for range 10 {
		p, s := m.fine(8), m.text(400)
		for range 40 {
			same(t, p, s, 1+m.Intn(16))
		}
	}
}

// begun tells of all goroutines that package parts has begun and that have not ended: how many there are, and how many of these are at work.
func begun() (here, busy int) {
	room := make([]byte, 1<<20)
	room = room[:runtime.Stack(room, true)]
	for one := range strings.SplitSeq(string(room), "\n\n") {
		if strings.Contains(one, "created by respell/parts.") {
			here++
			if strings.Contains(one, "respell/machine.") {
				busy++
			}
		}
	}
	return here, busy
}

// ended holds that all goroutines have ended. One that has said so may be on its last way still, but does nothing any more.
func ended(t *testing.T) {
	t.Helper()
	here, busy := begun()
	if busy > 0 {
		t.Fatalf("%d goroutines are at work", busy)
	}
	for range 2000 {
		if here == 0 {
			return
		}
		time.Sleep(time.Millisecond)
		here, _ = begun()
	}
	t.Fatalf("%d goroutines go on", here)
}

func TestGoroutinesEnd(t *testing.T) { // P17.3, R5
	before := runtime.NumGoroutine()
	p := read(t, "^ { a > A ; a > | bb ; b } $ > B")
	for _, s := range []string{"", "a", " ", "ab ab", strings.Repeat("a b ", 4096), strings.Repeat("a", 16384), strings.Repeat("a ", 40)} {
		for _, n := range everyone {
			parts.Run(p, s, n)
			ended(t)
		}
	}
	work, text := heavy()
	for _, n := range []int{1, 2, 16} {
		parts.Run(work, text, n)
		ended(t)
	}
	// Also where it refuses.
	for _, n := range noWorkers {
		parts.Run(p, "ab ab", n)
		ended(t)
	}
	for _, n := range []int{1, 16} {
		parts.Run(p, strings.Repeat("a ", 8193), n)
		ended(t)
		parts.Run(read(t, "a > | a"), "a a", n)
		ended(t)
		parts.Run(rules(api.Rule{}), "a a", n)
		ended(t)
		parts.Safe(p, "ab ab")
		ended(t)
	}
	for range 2000 {
		if runtime.NumGoroutine() <= before {
			return
		}
		time.Sleep(time.Millisecond)
	}
	t.Errorf("%d goroutines, and there were %d", runtime.NumGoroutine(), before)
}

// most is how many goroutines of Run's there are at one time at most, and how many are at work, as far as it is seen.
func most(t *testing.T, workers int) (here, busy int) {
	t.Helper()
	p, s := heavy()
	done := make(chan api.Errno)
	go func() {
		_, e := parts.Run(p, s, workers)
		done <- e
	}()
	for {
		select {
		case e := <-done:
			if e != api.OK {
				t.Fatal(e)
			}
			return here, busy
		default:
			all, some := begun()
			here, busy = max(here, all), max(busy, some)
		}
	}
}

func TestSoManyWorkers(t *testing.T) { // P17.2: as many as are asked for, and not one of them for all parts
	for _, n := range []int{1, 2, 5, 16} {
		here, busy := 0, 0
		// They may not be seen at once, as they are gone soon.
		for range 100 {
			all, some := most(t, n)
			here, busy = max(here, all), max(busy, some)
			if here >= n && busy >= min(n, 2) {
				break
			}
		}
		if here != n || busy < min(n, 2) {
			t.Errorf("%d workers, not %d; %d at work", here, n, busy)
		}
		ended(t)
	}
}

func TestManyCallersSideBySide(t *testing.T) { // P17.3, R5
	m := made(194, 4, 0)
	var wait sync.WaitGroup
	for range 12 {
		p, s := m.fine(10), m.text(300)
		places, text := safe(t, p, s), same(t, p, s, 1)
		for n := range 4 {
			wait.Go(func() {
				for i := range 10 {
					if got, e := parts.Run(p, s, 1+(5*n+i)%16); got != text || e != api.OK {
						t.Errorf("%s over %.60q: %.60q, %d", brief(p), s, got, e)
					}
					if got, e := parts.Safe(p, s); !slices.Equal(got, places) || e != api.OK {
						t.Errorf("%s over %.60q: %.60s, %d", brief(p), s, fmt.Sprint(got), e)
					}
				}
			})
		}
	}
	wait.Wait()
	ended(t)
}
