package rule_test

import (
	"fmt"
	"math"
	"math/rand"
	"slices"
	"strings"
	"sync"
	"testing"
	"unsafe"

	"respell/api"
	"respell/rule"
)

// What holds everywhere: R1, R4, R5.

func spoil(l []int) {
	l = l[:cap(l)]
	for i := range l {
		l[i] = math.MinInt
	}
}

func TestWhatIsToldIsTheCallers(t *testing.T) { // R4
	key := letters("b7r")
	for cursor := range 5 {
		r := full()
		r.Cursor = cursor
		firstDone, firstBack := rule.Lays(r, key)
		wantDone, wantBack := slices.Clone(firstDone), slices.Clone(firstBack)
		for range 3 {
			// Whoever writes into the one, or lets it grow, does not write into the other.
			done, back := rule.Lays(r, key)
			spoil(append(done, 1, 2, 3))
			spoil(done)
			if !slices.Equal(back, wantBack) {
				t.Errorf("what is written to what is done is seen in what is put back: %x", back)
			}
			done, back = rule.Lays(r, key)
			spoil(append(back, 1, 2, 3))
			spoil(back)
			if !slices.Equal(done, wantDone) {
				t.Errorf("what is written to what is put back is seen in what is done: %x", done)
			}
			lays(t, r, key, wantDone, wantBack)
		}
		if !slices.Equal(firstDone, wantDone) || !slices.Equal(firstBack, wantBack) {
			t.Errorf("an earlier answer: %x, %x", firstDone, firstBack)
		}
	}
}

// room is where a list lies, its spare room too.
type room struct{ from, to uintptr }

func roomOf(l []int) room {
	from := uintptr(unsafe.Pointer(unsafe.SliceData(l)))
	return room{from, from + uintptr(cap(l))*unsafe.Sizeof(0)}
}

func TestNoTwoListsShareRoom(t *testing.T) { // R4
	m := maker{rand.New(rand.NewSource(4)), 0}
	for range 500 {
		r := m.rule()
		key := m.key(r.Key)
		one, two := rule.Lays(r, key)
		three, four := rule.Lays(r, key)
		rooms := []room{roomOf(key), roomOf(one), roomOf(two), roomOf(three), roomOf(four)}
		for i, x := range rooms {
			for _, y := range rooms[:i] {
				if x.from < y.to && y.from < x.to {
					t.Errorf("%v: two lists share room", r)
				}
			}
		}
	}
}

// roomy is a copy of a list with spare room behind it that has something in it.
func roomy[T any](l []T, spare T) []T {
	return append(slices.Clone(l), spare, spare, spare)[:len(l)]
}

func roomySets(l []api.Set) []api.Set {
	out := roomy(l, of(-7, -8))
	for i, s := range out {
		out[i] = roomy(s, api.Range{Lo: -7, Hi: -8})
	}
	return out
}

func roomyRule(r api.Rule) api.Rule {
	r.Ante, r.Key, r.Post, r.Result = roomySets(r.Ante), roomySets(r.Key), roomySets(r.Post), roomy(r.Result, unit(-7))
	for i, p := range r.Result {
		r.Result[i].To = roomy(p.To, api.Range{Lo: -7, Hi: -8})
	}
	return r
}

// seen tells all that stands in the lists of a rule, the spare room too.
func seen(r api.Rule) string {
	var b strings.Builder
	fmt.Fprint(&b, r)
	for _, l := range [][]api.Set{r.Ante, r.Key, r.Post} {
		for _, s := range l[:cap(l)] {
			fmt.Fprint(&b, s[:cap(s)])
		}
	}
	for _, p := range r.Result[:cap(r.Result)] {
		fmt.Fprint(&b, p, p.To[:cap(p.To)])
	}
	return b.String()
}

func TestWhatIsHandedInStays(t *testing.T) { // R4
	for _, wrong := range []int{0, 20} {
		m := maker{rand.New(rand.NewSource(5)), wrong}
		for range 500 {
			r := roomyRule(m.rule())
			key := roomy(m.key(r.Key), -7)
			other := roomyRule(r)
			l := roomy([]api.Rule{r, other}, api.Rule{Cursor: -7})
			before, keyBefore := seen(r)+seen(other), fmt.Sprint(key[:cap(key)])
			rule.Check(r)
			rule.All(api.Pass{Rules: l})
			done, back := rule.Lays(r, key)
			spoil(append(done, 1))
			spoil(done)
			spoil(append(back, 1))
			spoil(back)
			rule.Same(r, other)
			if seen(r)+seen(other) != before || fmt.Sprint(key[:cap(key)]) != keyBefore || seen(l[0])+seen(l[1]) != before || l[:3][2].Cursor != -7 {
				t.Errorf("what was handed in has changed: %v, %x", r, key)
			}
		}
	}
}

func TestWhatIsHandedInIsNotKept(t *testing.T) { // R4, R5
	r, key := full(), letters("b7r")
	done, back := rule.Lays(r, key)
	spoil(key)
	r.Result[0].Unit = 'q'
	r.Result[2].To[0] = api.Range{Lo: 'p', Hi: 'r'}
	if !slices.Equal(done, letters("x7")) || !slices.Equal(back, []int{'y', 0xE000}) {
		t.Errorf("what was told has changed: %x, %x", done, back)
	}
	lays(t, r, letters("b7r"), letters("q7"), []int{'q', 0xE000})
	checks(t, r, api.OK)
	r.Key[1][0].Lo = 'z'
	checks(t, r, api.ErrRuleSet)
	same(t, r, full(), false)
	checks(t, full(), api.OK)
	lays(t, full(), letters("b7r"), letters("x7"), []int{'y', 0xE000})
}

func TestEveryCallEnds(t *testing.T) { // R1
	numbers := []int{math.MinInt, math.MinInt + 1, -1, 0, 1, math.MaxInt - 1, math.MaxInt}
	for _, x := range numbers {
		for _, y := range numbers {
			for kind := -1; kind <= 4; kind++ {
				for _, s := range []api.Set{abc, of(x, y), of(x, x, y, y), of('a', 'c', x, y), nil} {
					r := api.Rule{Ante: row(abc), Key: row(s, abc), Post: row(abc), Result: pieces(api.Piece{Kind: kind, Unit: x, Key: y, To: s}), Cursor: y}
					want := errorsByWords(r).first()
					checks(t, r, want)
					rule.Lays(r, []int{x, y})
					rule.Lays(r, []int{'a', 'a'})
					same(t, r, copyOf(r), true)
					r.Key, r.Result[0].Unit = row(abc), 0
					checks(t, r, errorsByWords(r).first())
					rule.Lays(r, []int{x})
					rule.Lays(r, letters("b"))
				}
			}
		}
	}
	long := 100000
	great := api.Rule{Ante: slices.Repeat(row(a), long), Key: slices.Repeat(row(a), long), Post: slices.Repeat(row(a), long), Result: slices.Repeat(pieces(unit('a')), long)}
	checks(t, great, api.ErrRuleKey)
	nothing(t, great, slices.Repeat(letters("a"), long)...)
	same(t, great, copyOf(great), true)
	checks(t, api.Rule{Key: row(every(0, long))}, api.ErrRuleSet)
	nothing(t, full(), slices.Repeat(letters("b7r"), long)...)
	allIs(t, slices.Repeat([]api.Rule{great}, 1000), 0, api.ErrRuleMany)
}

func TestCallsLeaveNoTrace(t *testing.T) { // R5
	key := letters("b7r")
	for range 3 {
		for _, x := range flaws {
			r := full()
			x.put(&r)
			checks(t, r, x.code)
			nothing(t, r, key...)
			allIs(t, []api.Rule{full(), r}, 1, x.code)
			same(t, r, full(), false)
			checks(t, full(), api.OK)
			lays(t, full(), key, letters("x7"), []int{'y', 0xE000})
			allIs(t, []api.Rule{full()}, 0, api.OK)
			same(t, full(), full(), true)
		}
	}
}

func TestSideBySide(t *testing.T) { // R4, R5
	r, key := full(), letters("b7r")
	var all sync.WaitGroup
	for range 8 {
		all.Go(func() {
			for range 200 {
				checks(t, r, api.OK)
				allIs(t, []api.Rule{r, {}}, 1, api.ErrRuleKey)
				done, back := rule.Lays(r, key)
				spoil(done)
				spoil(back)
				lays(t, r, key, letters("x7"), []int{'y', 0xE000})
				same(t, r, r, true)
			}
		})
	}
	all.Wait()
}
