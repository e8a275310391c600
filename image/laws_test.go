package image_test

import (
	"fmt"
	"math/bits"
	"slices"
	"strings"
	"testing"

	"respell/api"
	"respell/image"
	"respell/pass"
	"respell/rule"
	"respell/weigh"
)

// What follows of the chapter's promises: P21.3 (W8), P21.4.

// shown is passes as they are written, all of them: an empty list as a nil one, and unlike ones unlike.
func shown(l []api.Pass) string { return fmt.Sprint(l) }

func TestUnlikePassesHaveUnlikeImages(t *testing.T) { // P21.3
	m := made(221, 0)
	images := map[string]string{}
	l := samples(t)
	for range 3000 {
		l = append(l, m.passes(3, 2))
	}
	for n := range 17 {
		l = append(l, make([]api.Pass, n))
	}
	for _, k := range l {
		b := string(put(t, k))
		if was, is := images[b]; is && was != shown(k) {
			t.Fatalf("%s has an image of other passes", brief(k))
		}
		images[b] = shown(k)
	}
	if len(images) < 1500 {
		t.Errorf("only %d images", len(images))
	}
	// None is the beginning of another one: else it would be that of the one behind it, if they are sorted.
	all := make([]string, 0, len(images))
	for b := range images {
		all = append(all, b)
	}
	slices.Sort(all)
	for n, b := range all[1:] {
		if strings.HasPrefix(b, all[n]) {
			t.Fatalf("% X begins with % X", b, all[n])
		}
	}
}

// changes are ways to change a rule that may be to another one, each in another field.
var changes = []func(r *api.Rule){
	func(r *api.Rule) { r.Begin = !r.Begin },
	func(r *api.Rule) { r.End = !r.End },
	func(r *api.Rule) { r.Begin, r.End = !r.Begin, !r.End },
	func(r *api.Rule) { r.Ante = append(slices.Clone(r.Ante), a) },
	func(r *api.Rule) { r.Ante = r.Ante[1:] },
	func(r *api.Rule) { r.Ante = row(of('a', 'b'), r.Ante[1]) },
	func(r *api.Rule) { r.Key = append(slices.Clone(r.Key), a) },
	func(r *api.Rule) { r.Key = row(r.Key[0], r.Key[1]) },
	func(r *api.Rule) { r.Key = row(of('a', 'a', 'c', 'd'), r.Key[1], r.Key[2]) },
	func(r *api.Rule) { r.Key = row(r.Key[0], r.Key[2], r.Key[1]) },
	func(r *api.Rule) { r.Post = append(slices.Clone(r.Post), a) },
	func(r *api.Rule) { r.Post = nil },
	func(r *api.Rule) { r.Ante, r.Post = r.Post, r.Ante },
	func(r *api.Rule) { r.Ante, r.Post = nil, r.Ante },
	func(r *api.Rule) { r.Result = r.Result[:3] },
	func(r *api.Rule) { r.Result = append(slices.Clone(r.Result), r.Result[3]) },
	func(r *api.Rule) { r.Result = append(pieces(unit('y')), r.Result[1:]...) },
	func(r *api.Rule) { r.Result = append(pieces(again(0)), r.Result[1:]...) },
	func(r *api.Rule) { r.Result = slices.Concat(r.Result[:1], pieces(again(2)), r.Result[2:]) },
	func(r *api.Rule) { r.Result = slices.Concat(r.Result[:1], pieces(paired(1, r.Key[1])), r.Result[2:]) },
	func(r *api.Rule) {
		r.Result = slices.Concat(r.Result[:2], pieces(paired(0, of('p', 'r'))), r.Result[3:])
	},
	func(r *api.Rule) { r.Result = slices.Concat(r.Result[1:2], r.Result[:1], r.Result[2:]) },
	func(r *api.Rule) { r.Cursor = 0 },
	func(r *api.Rule) { r.Cursor = 3 },
	func(r *api.Rule) { r.Cursor = 4 },
}

func TestEachFieldIsWritten(t *testing.T) { // P21.1, P21.3
	images := map[string]int{string(put(t, one(full()))): -1}
	for n, change := range changes {
		r := full()
		change(&r)
		if rule.Same(r, full()) {
			t.Fatalf("%d changes nothing", n)
		}
		b := string(put(t, one(r)))
		if k, is := images[b]; is {
			t.Errorf("%d has the image of %d", n, k)
		}
		images[b] = n
		put(t, []api.Pass{{}, rules(full(), r), rules(r, full(), r)})
	}
}

func TestTheOrderIsWritten(t *testing.T) { // P21.3
	images := map[string]bool{}
	for _, text := range []string{"a > b ; c > d", "c > d ; a > b", "a > b ; then ; c > d", "c > d ; then ; a > b", "a > b ; c > d ; then", "then ; a > b ; c > d", "a > b ; then ; then ; c > d"} {
		b := string(put(t, read(t, text)))
		if images[b] {
			t.Errorf("%s has an image of other passes", text)
		}
		images[b] = true
	}
}

func TestPassesDoTheSame(t *testing.T) { // W8
	m := made(222, 0)
	ran := 0
	for range 400 {
		l := m.passes(3, 3)
		again, e := image.Get(put(t, l))
		if e != api.OK || len(again) != len(l) {
			t.Fatalf("%s: %s, %d", brief(l), brief(again), e)
		}
		for n, p := range l {
			if k, e := weigh.Check(p); e != api.OK {
				if j, f := weigh.Check(again[n]); j != k || f != e {
					t.Fatalf("%s: %d, %d; want %d, %d", brief(l), j, f, k, e)
				}
				continue
			}
			ran++
			for _, s := range []string{"", "abcxyz", "aabb\x80\xFF\xC3\uD7FF\uE000\U0010FFFF", strings.Repeat("xyz\x00\x01\x02", 9)} {
				one, e := pass.Run(p, s)
				if other, f := pass.Run(again[n], s); other != one || f != e {
					t.Fatalf("%s over %q: %q, %d; want %q, %d", brief(l), s, other, f, one, e)
				}
			}
		}
	}
	if ran < 200 {
		t.Errorf("only %d passes ran", ran)
	}
}

// turned is bytes of which bits are turned, those of a pattern, from a bit on; the lowest bit of each byte is its first.
func turned(b []byte, from int, pattern uint32) []byte {
	c := slices.Clone(b)
	for n := range 32 {
		if pattern>>n&1 == 1 {
			c[(from+n)/8] ^= 1 << ((from + n) % 8)
		}
	}
	return c
}

// noImage holds that bits turned make of an image none, without asking the words.
func noImage(t *testing.T, b []byte, from int, pattern uint32) {
	t.Helper()
	if 8*len(b) < from+bits.Len32(pattern) {
		return
	}
	if l, e := image.Get(turned(b, from, pattern)); l != nil || e != api.ErrImageForm {
		t.Fatalf("Get of %s with %032b turned at bit %d: %s, %d", dump(b), pattern, from, brief(l), e)
	}
}

func TestTurnedBits(t *testing.T) { // P21.4
	m := made(223, 0)
	for _, l := range samples(t) {
		b := put(t, l)
		for from := range 8 * len(b) {
			for n := range 32 {
				noImage(t, b, from, 1|1<<n) // one bit, or two
				noImage(t, b, from, 1<<n|(1<<n-1))
				noImage(t, b, from, 1|1<<31|m.Uint32())
				noImage(t, b, from, 1|1<<31|m.Uint32()&m.Uint32()&m.Uint32())
				noImage(t, b, from, 1|m.Uint32()>>n)
			}
			for _, pattern := range []uint32{3988292384, bits.Reverse32(3988292384), 0x82608EDB, 0xFFFFFFFF, 0x55555555, 0xAAAAAAAA, 0xFF00FF, 0xFF0000FF} {
				noImage(t, b, from, pattern)
			}
			for pattern := range uint32(255) {
				noImage(t, b, from, pattern+1)
			}
		}
	}
}

// The check of bytes of which a bit is turned is another one by a number that hangs on the bit's place alone; of which some are turned, by all their numbers xored. So whatever is turned within 32 bits is seen, if none of their numbers is made of the others.
func TestNoTurnedBitsAreUnseen(t *testing.T) { // P21.4: all patterns, at all places
	for _, l := range samples(t) {
		b := put(t, l)
		was := unseen(b)
		if was != 0 {
			t.Fatalf("% X: %X", b, was)
		}
		numbers := make([]uint32, 8*len(b))
		for n := range numbers {
			numbers[n] = unseen(turned(b, n, 1))
		}
		for from := range len(numbers) - 31 {
			if n := rank(numbers[from : from+32]); n != 32 {
				t.Errorf("% X: of 32 bits from %d on only %d are by themselves", b, from, n)
			}
		}
	}
}

// unseen is the check of the bytes ahead of the last four, xored with the one that these are: 0, if nothing is seen.
func unseen(b []byte) uint32 {
	want := sealed(unsealed(b))
	var n uint32
	for i := range 4 {
		n |= uint32(want[len(b)-4+i]^b[len(b)-4+i]) << (8 * i)
	}
	return n
}

// rank is how many of some numbers are not made of those ahead by xoring.
func rank(l []uint32) int {
	var base [33]uint32
	n := 0
	for _, x := range l {
		for x != 0 && base[bits.Len32(x)] != 0 {
			x ^= base[bits.Len32(x)]
		}
		if x != 0 {
			base[bits.Len32(x)] = x
			n++
		}
	}
	return n
}
