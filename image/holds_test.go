package image_test

import (
	"bytes"
	"cmp"
	"fmt"
	"math"
	"slices"
	"strings"
	"sync"
	"testing"
	"unsafe"

	"respell/api"
	"respell/image"
)

// What holds everywhere: R1 to R5.

func TestEveryCallEnds(t *testing.T) { // R1, R2
	numbers := []int{math.MinInt, math.MinInt + 1, -1, 0, 1, 2, 'a', 255, 256, maxRune, firstRaw, 1 << 24, 1<<24 + 'a', math.MaxInt - 1, math.MaxInt}
	codes := map[api.Errno]int{}
	for _, x := range numbers {
		for _, y := range numbers {
			for kind := -1; kind <= 4; kind++ {
				for _, s := range []api.Set{abc, of(x, y), of(x, x, y, y), of('a', 'c', x, y), nil} {
					near := api.Rule{Ante: row(abc), Key: row(abc, s), Post: row(s), Result: pieces(api.Piece{Kind: kind, Unit: x, Key: y, To: s}), Cursor: y}
					one := api.Rule{Key: row(s), Result: pieces(api.Piece{Kind: kind, Unit: y, To: s}), Cursor: 1}
					two := api.Rule{Key: row(abc, abc), Result: pieces(again(1), api.Piece{Kind: kind, Unit: x}), Cursor: y}
					last := api.Rule{Key: row(abc, abc), Result: pieces(api.Piece{Kind: kind, Key: x, To: s}), Cursor: y}
					for _, l := range [][]api.Pass{{rules(near, one)}, {rules(one)}, {rules(two)}, {{}, rules(last)}, {rules(two, last)}, {rules(last), rules(near)}} {
						e := errorByWords(l)
						codes[e]++
						if e == api.OK {
							put(t, l)
						} else {
							refused(t, l, e)
						}
					}
				}
			}
		}
	}
	if codes[api.OK] < 100 || len(codes) < 6 {
		t.Errorf("%v", codes)
	}
	for _, n := range []int{257, 100000} {
		great := api.Rule{Ante: slices.Repeat(row(a), n), Key: slices.Repeat(row(a), n), Post: slices.Repeat(row(a), n)}
		refused(t, one(great), api.ErrRuleKey)
		refused(t, one(slices.Repeat([]api.Rule{great}, n)...), api.ErrRuleMany)
		refused(t, slices.Repeat(one(slices.Repeat([]api.Rule{great}, n)...), n), api.ErrArg)
	}
}

// Any bytes whatever.
func TestAnyBytes(t *testing.T) { // R1
	m := made(231, 0)
	for n := range 30000 {
		b := make([]byte, n%100)
		m.Read(b)
		none(t, b)
		none(t, sealed(b))
		// Small numbers, so that more is read of them.
		for i := range b {
			b[i] &= b[i] >> m.Intn(8)
		}
		got(t, sealed(append([]byte("RS\x01\x00"), b...)))
		got(t, sealed(append([]byte("RS"), b...)))
	}
	for _, x := range []byte{0, 1, 2, 3, 255} {
		b := bytes.Repeat([]byte{x}, 1<<22)
		none(t, b)
		none(t, sealed(b))
		copy(b, "RS")
		none(t, sealed(b))
	}
}

func TestNilAndEmptyAreTheSame(t *testing.T) { // R3, P21.3
	for _, m := range []maker{made(232, 0), made(233, 3)} {
		for range 1000 {
			l := m.passes(3, 3)
			k := append([]api.Pass{}, l...)
			for n, p := range l {
				k[n].Rules = append([]api.Rule{}, p.Rules...)
				for i, r := range k[n].Rules {
					r.Ante, r.Key, r.Post = append([]api.Set{}, r.Ante...), append([]api.Set{}, r.Key...), append([]api.Set{}, r.Post...)
					r.Result = append([]api.Piece{}, r.Result...)
					for k := range r.Result {
						r.Result[k].To = append(api.Set{}, r.Result[k].To...)
					}
					k[n].Rules[i] = r
				}
			}
			one, e := image.Put(l)
			other, f := image.Put(k)
			if !bytes.Equal(one, other) || e != f {
				t.Fatalf("%s: %s, %d, and with empty lists %s, %d", brief(l), dump(one), e, dump(other), f)
			}
		}
	}
}

func TestWhatIsNotNamedIsZero(t *testing.T) { // R3: in the pieces that Get answers
	m, kinds := made(234, 0), map[int]int{}
	for range 1000 {
		l, e := image.Get(put(t, m.passes(3, 3)))
		if e != api.OK {
			t.Fatal(e)
		}
		for _, p := range l {
			for _, r := range p.Rules {
				for _, x := range r.Result {
					kinds[x.Kind]++
					if x.Kind == api.PUnit && (x.Key != 0 || len(x.To) > 0) || x.Kind != api.PUnit && x.Unit != 0 || x.Kind == api.PCopy && len(x.To) > 0 {
						t.Fatalf("%v", x)
					}
				}
			}
		}
	}
	if len(kinds) != 3 || kinds[api.PUnit] < 500 || kinds[api.PCopy] < 500 || kinds[api.PPair] < 500 {
		t.Errorf("%v", kinds)
	}
}

// roomy is a copy of a list with spare room behind it that has something in it.
func roomy[T any](l []T, spare T) []T {
	return append(slices.Clone(l), spare, spare, spare)[:len(l)]
}

func roomySets(l []api.Set) []api.Set {
	out := roomy(l, of(-7, -8))
	for i, s := range out {
		out[i] = roomy(s, api.Range{Lo: -7, Hi: -8})
	}
	return out
}

func roomyPasses(l []api.Pass) []api.Pass {
	out := roomy(l, rules(api.Rule{Cursor: -7}))
	for n, p := range out {
		p.Rules = roomy(p.Rules, api.Rule{Cursor: -7})
		for i, r := range p.Rules {
			r.Ante, r.Key, r.Post, r.Result = roomySets(r.Ante), roomySets(r.Key), roomySets(r.Post), roomy(r.Result, unit(-7))
			for k, x := range r.Result {
				r.Result[k].To = roomy(x.To, api.Range{Lo: -7, Hi: -8})
			}
			p.Rules[i] = r
		}
		out[n] = p
	}
	return out
}

// seen tells all that stands in the lists of passes, the spare room too.
func seen(l []api.Pass) string {
	var b strings.Builder
	for _, p := range l[:cap(l)] {
		for _, r := range p.Rules[:cap(p.Rules)] {
			fmt.Fprint(&b, r)
			for _, l := range [][]api.Set{r.Ante, r.Key, r.Post} {
				for _, s := range l[:cap(l)] {
					fmt.Fprint(&b, s[:cap(s)])
				}
			}
			for _, x := range r.Result[:cap(r.Result)] {
				fmt.Fprint(&b, x, x.To[:cap(x.To)])
			}
		}
	}
	return b.String()
}

// mark writes a number into all bytes of a list, its spare room too.
func mark(b []byte, n byte) {
	b = b[:cap(b)]
	for i := range b {
		b[i] = n
	}
}

// spoil writes other things into all lists of passes, the spare room too.
func spoil(l []api.Pass) {
	for _, p := range l {
		for _, r := range p.Rules {
			for _, sets := range [][]api.Set{r.Ante, r.Key, r.Post} {
				for _, s := range sets {
					fill(s, api.Range{Lo: -3, Hi: -4})
				}
				fill(sets, of(-5, -6))
			}
			for _, x := range r.Result {
				fill(x.To, api.Range{Lo: -3, Hi: -4})
			}
			fill(r.Result, unit(-7))
		}
		fill(p.Rules, api.Rule{Cursor: -8})
	}
	fill(l, rules(api.Rule{Cursor: -9}))
}

func fill[T any](l []T, x T) {
	l = l[:cap(l)]
	for i := range l {
		l[i] = x
	}
}

func TestWhatIsHandedInStays(t *testing.T) { // R4
	for _, m := range []maker{made(235, 0), made(236, 3)} {
		for range 800 {
			l := roomyPasses(m.passes(4, 4))
			before := seen(l)
			b, e := image.Put(l)
			mark(append(b, 1, 2, 3), 7)
			mark(b, 9)
			if seen(l) != before {
				t.Fatalf("what was handed in has changed: %s", brief(l))
			}
			b = imageByWords(l)
			if e != api.OK {
				b = append([]byte("RS"), b...)
			}
			b = append(b, 71, 72, 73)[:len(b)]
			was := slices.Clone(b[:cap(b)])
			again, _ := image.Get(b)
			spoil(again)
			if !bytes.Equal(b[:cap(b)], was) {
				t.Fatalf("what was handed in has changed: %s", dump(was))
			}
		}
	}
}

// What stands behind the bytes that are handed in is not read.
func TestTheRoomBehindIsNotRead(t *testing.T) { // R4, P21.2
	for _, l := range samples(t) {
		b := put(t, l)
		for n := range len(b) {
			if l, e := image.Get(b[:n]); l != nil || e != api.ErrImageForm {
				t.Fatalf("Get of %s: %s, %d", dump(b[:n]), brief(l), e)
			}
		}
		if again, is := got(t, append(slices.Clone(b), b...)[:len(b)]); !is || !samePasses(again, l) {
			t.Fatalf("Get of %s: %s", dump(b), brief(again))
		}
	}
}

func TestWhatIsHandedInIsNotKept(t *testing.T) { // R4, R5
	m := made(237, 0)
	for range 800 {
		l := roomyPasses(m.passes(4, 4))
		want := imageByWords(l)
		b, _ := image.Put(l)
		other := roomyPasses(l)
		spoil(l)
		if !bytes.Equal(b, want) {
			t.Fatalf("what was handed in stands in the answer: %s", brief(other))
		}
		put(t, other)
		again, _ := image.Get(b)
		mark(b, 7)
		if !samePasses(again, other) {
			t.Fatalf("what was handed in stands in the answer: %s", brief(other))
		}
		if later, e := image.Get(want); e != api.OK || !samePasses(later, other) {
			t.Fatalf("%s: later %s, %d", brief(other), brief(later), e)
		}
	}
}

func TestAnswersAreNewMemory(t *testing.T) { // R4
	for _, l := range append(samples(t), slices.Repeat(one(full(), full()), 3)) {
		want := imageByWords(l)
		one, _ := image.Put(l)
		other, _ := image.Put(l)
		mark(one, 7)
		if later, _ := image.Put(l); !bytes.Equal(other, want) || !bytes.Equal(later, want) {
			t.Fatalf("%s: two answers share memory", brief(l))
		}
		these, _ := image.Get(want)
		those, _ := image.Get(want)
		spoil(these)
		if later, _ := image.Get(want); !samePasses(those, l) || !samePasses(later, l) {
			t.Fatalf("%s: two answers share memory", brief(l))
		}
	}
}

// room is where a list lies, its spare room too.
type room struct{ from, to uintptr }

func roomOf[T any](l []T) room {
	var x T
	from := uintptr(unsafe.Pointer(unsafe.SliceData(l)))
	return room{from, from + uintptr(cap(l))*unsafe.Sizeof(x)}
}

// roomsOf are those of all lists of passes.
func roomsOf(l []api.Pass) []room {
	rooms := []room{roomOf(l)}
	for _, p := range l {
		rooms = append(rooms, roomOf(p.Rules))
		for _, r := range p.Rules {
			rooms = append(rooms, roomOf(r.Ante), roomOf(r.Key), roomOf(r.Post), roomOf(r.Result))
			for _, s := range slices.Concat(r.Ante, r.Key, r.Post) {
				rooms = append(rooms, roomOf(s))
			}
			for _, x := range r.Result {
				rooms = append(rooms, roomOf(x.To))
			}
		}
	}
	return rooms
}

// apart holds that no two of some rooms have a place in common.
func apart(t *testing.T, l []room) {
	t.Helper()
	l = slices.DeleteFunc(l, func(x room) bool { return x.from == x.to })
	slices.SortFunc(l, func(x, y room) int { return cmp.Compare(x.from, y.from) })
	for n := range len(l) - 1 {
		if l[n].to > l[n+1].from {
			t.Fatal("two lists share memory")
		}
	}
}

func TestNoTwoListsShareRoom(t *testing.T) { // R4
	m := made(238, 0)
	for range 800 {
		b := imageByWords(m.passes(4, 4))
		one, e := image.Get(b)
		other, f := image.Get(b)
		if e != api.OK || f != api.OK {
			t.Fatalf("Get of %s: %d, %d", dump(b), e, f)
		}
		c, _ := image.Put(one)
		d, _ := image.Put(one)
		apart(t, slices.Concat(roomsOf(one), roomsOf(other), []room{roomOf(b), roomOf(c), roomOf(d)}))
	}
}

func TestOneAnswer(t *testing.T) { // R5: earlier calls are not seen
	good := read(t, "^ 1 { [ab]c } 2 > @1:[xy] | d ; e > ; then ; f > ff")
	want := imageByWords(good)
	for _, l := range append(samples(t), one(api.Rule{}), one(api.Rule{Key: row(a), Cursor: 1}), make([]api.Pass, 17), one(make([]api.Rule, 257)...)) {
		for range 3 {
			b, _ := image.Put(l)
			for _, c := range [][]byte{b, b[:len(b)/2], append(b, 0), bare(l), imageByWords(l), nil, sealed([]byte("RS\x02\x00"))} {
				image.Get(c)
				if got, e := image.Put(good); !bytes.Equal(got, want) || e != api.OK {
					t.Fatalf("behind %s: %s, %d", brief(l), dump(got), e)
				}
				if got, e := image.Get(want); !samePasses(got, good) || e != api.OK {
					t.Fatalf("behind %s: %s, %d", dump(c), brief(got), e)
				}
			}
		}
	}
}

func TestManyCallersSideBySide(t *testing.T) { // R5
	m := made(239, 0)
	var wait sync.WaitGroup
	for range 12 {
		l := m.passes(4, 4)
		b := imageByWords(l)
		for range 4 {
			wait.Go(func() {
				for range 20 {
					if got, e := image.Put(l); !bytes.Equal(got, b) || e != api.OK {
						t.Errorf("Put of %s: %s, %d", brief(l), dump(got), e)
					}
					if got, e := image.Get(b); !samePasses(got, l) || e != api.OK {
						t.Errorf("Get of %s: %s, %d", dump(b), brief(got), e)
					}
				}
			})
		}
	}
	wait.Wait()
}
