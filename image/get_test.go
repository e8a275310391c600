package image_test

import (
	"bytes"
	"slices"
	"testing"

	"respell/api"
	"respell/image"
)

// What is no image: P21.2. Most of these bytes have the check that they should have, so that it is their form that is told.

// samples are passes with something of all kinds, whose images are short.
func samples(t *testing.T) [][]api.Pass {
	t.Helper()
	texts := []string{"", "a > b", "^ { [a-c] > | @1:[x-z]", "a } $ > ; then ; then ; b > | c", "x[0-9] { [a-c]de } [^a]\\b{80} > 1@2|@1@1:[pxy]\\b{FF}", "^ { [ab] } $ > @1:[xz] ; [ab] > @1@1:[ab]@1", "\\x{10FFFF} > \\x{D7FF} | \\x{E000} ; . > @1:. ; then ; a > b ; c > d"}
	l := [][]api.Pass{nil, {{}, {}, {}}, one(full()), {rules(full(), full()), {}, rules(api.Rule{Key: row(a, abc), End: true})}}
	for _, text := range texts {
		l = append(l, read(t, text))
	}
	return l
}

func TestEveryBeginningOfAnImage(t *testing.T) { // P21.2
	for _, l := range samples(t) {
		b := put(t, l)
		for n := range len(b) {
			none(t, b[:n])
			none(t, b[:n:n])
		}
		// With the check that it should have the beginning may be one only up to what was the check.
		for n := range len(b) - 4 {
			none(t, sealed(b[:n]))
		}
	}
}

func TestAnImageAndMore(t *testing.T) { // P21.2
	for _, l := range samples(t) {
		b := put(t, l)
		bare := unsealed(b)
		for x := range 256 {
			none(t, append(slices.Clone(b), byte(x)))
			none(t, append([]byte{byte(x)}, b...))
			none(t, sealed(append(slices.Clone(b), byte(x))))
			none(t, sealed(append(slices.Clone(bare), byte(x))))
			none(t, sealed(append([]byte{byte(x)}, bare...)))
		}
		none(t, slices.Concat(b, b))
		none(t, sealed(b))
		none(t, sealed(slices.Concat(bare, bare)))
		none(t, sealed(slices.Concat(bare, make([]byte, 1000))))
	}
}

func TestNoBytesAndFew(t *testing.T) { // P21.2, R1
	none(t, nil)
	none(t, []byte{})
	for n := range 12 {
		none(t, make([]byte, n))
		none(t, bytes.Repeat([]byte{255}, n))
		none(t, sealed(make([]byte, n)))
		none(t, sealed([]byte("RSRSRSRSRSRS")[:n]))
	}
	none(t, sealed(nil))
	for _, s := range []string{"R", "S", "RS", "SR", "rs", "Rs", "RT", "\x00", "\xFF"} {
		none(t, []byte(s))
		none(t, sealed([]byte(s)))
	}
}

func TestOtherLetters(t *testing.T) { // P21.2
	for _, l := range samples(t) {
		bare := unsealed(put(t, l))
		for _, s := range []string{"SR", "rs", "Rs", "rS", "RR", "SS", "RT", "QS", "\x00S", "R\x00", "\x00\x00", "\xD2S", "R\xD3"} {
			none(t, sealed(append([]byte(s), bare[2:]...)))
		}
		none(t, sealed(bare[1:]))
		none(t, sealed(bare[2:]))
		none(t, sealed(append([]byte("RS"), bare...)))
	}
}

// Each byte becomes each other one, with the check as it was, and with the check of what there is then.
func TestEachByteChanged(t *testing.T) { // P21.2
	still, not := 0, 0
	for _, l := range samples(t) {
		b := put(t, l)
		for at := range b {
			for x := 1; x < 256; x++ {
				c := slices.Clone(b)
				c[at] ^= byte(x)
				if again, e := image.Get(c); again != nil || e != api.ErrImageForm {
					t.Fatalf("Get of %s: %s, %d", dump(c), brief(again), e)
				}
				if at >= len(b)-4 {
					continue
				}
				if again, is := got(t, sealed(unsealed(c))); is {
					still++
					if samePasses(again, l) {
						t.Fatalf("%s is an image of the same passes as %s", dump(c), dump(b))
					}
				} else {
					not++
				}
			}
		}
	}
	if still < 1000 || not < 10000 {
		t.Errorf("%d are images, %d are none", still, not)
	}
}

func TestTheCheckAloneChanged(t *testing.T) { // P21.2
	for _, l := range samples(t) {
		b := put(t, l)
		bare, check := unsealed(b), b[len(b)-4:]
		// Its bytes in all other orders.
		for n := range 256 {
			order := []byte{check[n&3], check[n>>2&3], check[n>>4&3], check[n>>6&3]}
			if !bytes.Equal(order, check) {
				none(t, append(slices.Clone(bare), order...))
			}
		}
		for _, x := range []byte{0, 1, 0x7F, 0x80, 0xFF} {
			none(t, append(slices.Clone(bare), x, x, x, x))
		}
		none(t, append(slices.Clone(bare), check[0]^255, check[1]^255, check[2]^255, check[3]^255))
		none(t, append(slices.Clone(bare), check[:3]...))
		none(t, append(append(slices.Clone(bare), check...), check...))
		for _, k := range samples(t) {
			other := put(t, k)
			if c := append(slices.Clone(bare), other[len(other)-4:]...); !bytes.Equal(c, b) {
				none(t, c)
			}
		}
	}
}

func TestTooManyPasses(t *testing.T) { // P21.2
	for n := range 256 {
		l := make([]api.Pass, n)
		many := slices.Repeat(read(t, "a > b"), n)
		if n <= 16 {
			put(t, l)
			put(t, many)
			continue
		}
		none(t, imageByWords(l))
		none(t, imageByWords(many))
		// Nor with one pass, or 16, behind such a count.
		few := bare(l[:16])
		few[2] = byte(n)
		none(t, sealed(few))
		none(t, sealed(few[:5]))
	}
}

// Counts that are greater, or less, than what follows has.
func TestCountsThatLie(t *testing.T) { // P21.2
	small := bare(one(api.Rule{Ante: row(a), Key: row(a), Post: row(a), Result: pieces(unit('x'), again(0), paired(0, a)), Cursor: 3}))
	// Where counts stand: of passes, rules, sets, ranges, pieces and of the ranges of a pair's set; and how many bytes they have.
	for _, at := range [][2]int{{2, 1}, {3, 2}, {6, 1}, {7, 2}, {15, 1}, {16, 2}, {24, 1}, {25, 2}, {33, 1}, {42, 2}} {
		last := at[0] + at[1] - 1
		if n := small[last]; n != 1 && n != 3 {
			t.Fatalf("no count stands at %d of % X", at[0], small)
		}
		for x := range 1 << (8 * at[1]) {
			if b := slices.Clone(small); x != int(small[last]) {
				b[last] = byte(x)
				if at[1] == 2 {
					b[at[0]] = byte(x >> 8)
				}
				none(t, sealed(b))
			}
		}
	}
	for _, n := range []int{257, 258, 512, 65535} {
		none(t, imageByWords(one(slices.Repeat([]api.Rule{{Key: row(a)}}, n)...)))
		none(t, imageByWords(one(make([]api.Rule, n)...)))
	}
	for _, n := range []int{9, 10, 16, 255} {
		l := slices.Repeat(row(a), n)
		none(t, imageByWords(one(api.Rule{Key: l})))
		none(t, imageByWords(one(api.Rule{Ante: l, Key: row(a)})))
		none(t, imageByWords(one(api.Rule{Key: row(a), Post: l})))
	}
	for _, n := range []int{513, 514, 1024, 65535} {
		s := each(0xE000, n)
		none(t, imageByWords(one(api.Rule{Ante: row(s), Key: row(a)})))
		none(t, imageByWords(one(api.Rule{Key: row(s)})))
		none(t, imageByWords(one(api.Rule{Key: row(a), Post: row(s)})))
		none(t, imageByWords(one(api.Rule{Key: row(of(0, n-1)), Result: pieces(paired(0, s))})))
	}
	for _, n := range []int{17, 18, 32, 255} {
		none(t, imageByWords(one(api.Rule{Key: row(a), Result: slices.Repeat(pieces(again(0)), n)})))
	}
	// Sixteen passes, each of as many rules of zeros as can be counted.
	none(t, sealed(slices.Concat([]byte("RS\x10"), slices.Repeat(append([]byte{255, 255}, make([]byte, 65535*6)...), 16))))
}

func TestKindsThatThereAreNot(t *testing.T) { // P21.2
	b := bare(one(api.Rule{Key: row(a), Result: pieces(unit(0), unit(0)), Cursor: 1}))
	// Two pieces 01 00 00 00, a cursor.
	at := len(b) - 9
	for kind := range 256 {
		c := slices.Clone(b)
		c[at] = byte(kind)
		if kind == api.PUnit {
			put(t, one(api.Rule{Key: row(a), Result: pieces(unit(0), unit(0)), Cursor: 1}))
			continue
		}
		none(t, sealed(c))
		// Whatever stands behind it: nothing, a unit, a place, a place and a set.
		for _, more := range []string{"", "\x00", "\x00\x00a", "\x00\x00\x01\x00\x00a\x00\x00a"} {
			d := slices.Concat(b[:at-1], []byte{1, byte(kind)}, []byte(more), []byte{0})
			if _, is := got(t, sealed(d)); is != (kind == api.PCopy && more == "\x00" || kind == api.PPair && len(more) > 8) {
				t.Errorf("%d and %q: %t", kind, more, is)
			}
		}
	}
}

func TestOtherBeginsAndEnds(t *testing.T) { // P21.2
	b := bare(read(t, "a > b"))
	for n := range 256 {
		b[5] = byte(n)
		if l, is := got(t, sealed(b)); is != (n < 4) || is && (l[0].Rules[0].Begin != (n%2 == 1) || l[0].Rules[0].End != (n/2 == 1)) {
			t.Errorf("%d: %t, %s", n, is, brief(l))
		}
	}
}

func TestPassesThatMayNotBe(t *testing.T) { // P21.2: what rule.All refuses
	codes := map[api.Errno]int{}
	for _, x := range flaws {
		r := full()
		x.put(&r)
		codes[x.code]++
		for _, l := range [][]api.Pass{one(r), one(full(), r), one(r, full()), {{}, rules(full()), rules(r)}, {rules(r), rules(full())}} {
			none(t, imageByWords(l))
		}
		for place := range 16 {
			l := slices.Repeat(one(full()), 16)
			l[place] = rules(full(), r, full())
			none(t, imageByWords(l))
		}
	}
	for e := api.ErrRuleKey; e <= api.ErrRuleCursor; e++ {
		if codes[e] == 0 {
			t.Errorf("no rule is refused by %d", e)
		}
	}
	// Each number that three bytes can have, at some steps, as a piece's unit, and as a range's.
	for u := 0; u < 1<<24; u++ {
		if u > 0x110200 && u%4001 > 0 || u > 0x300 && u < 0xD700 && u%101 > 0 || u > 0xE100 && u < 0x10FF00 && u%997 > 0 {
			continue
		}
		_, is := got(t, imageByWords(one(api.Rule{Key: row(a), Result: pieces(unit(u))})))
		_, in := got(t, imageByWords(one(api.Rule{Key: row(of(u, u))})))
		if want := u < 0xD800 || u > 0xDFFF && u < 0x110000 || u >= firstRaw && u <= lastRaw; is != want || in != want {
			t.Fatalf("%X: %t, %t", u, is, in)
		}
	}
	// Each place, and each cursor.
	for n := range 256 {
		key := row(abc, abc, abc)
		_, is := got(t, imageByWords(one(api.Rule{Key: key, Result: pieces(again(n))})))
		_, of := got(t, imageByWords(one(api.Rule{Key: key, Result: pieces(paired(n, abc))})))
		_, on := got(t, imageByWords(one(api.Rule{Key: key, Result: pieces(unit('a'), unit('b')), Cursor: n})))
		if is != (n < 3) || of != (n < 3) || on != (n < 3) {
			t.Errorf("%d: %t, %t, %t", n, is, of, on)
		}
	}
}

// One pass has one image: sets have one row of ranges, and what a piece does not have is not written.
func TestTwoFormsOfOnePass(t *testing.T) { // P21.2
	for _, s := range []api.Set{of('a', 'b', 'c', 'c'), of('a', 'a', 'b', 'c'), of('a', 'b', 'b', 'c'), of('c', 'c', 'a', 'b'), of('a', 'c', 'a', 'c'), of('a', 'c', 'c', 'b'), of('a', 'a', 'b', 'b', 'c', 'c'), of(0x11007F, 0x11007F, 'a', 'c'), of('a', 'c', 0xD800, 0xDFFF), of(0xD7FF, 0xE000), of('c', 'a')} {
		none(t, imageByWords(one(api.Rule{Key: row(s)})))
		none(t, imageByWords(one(api.Rule{Ante: row(s), Key: row(a)})))
		none(t, imageByWords(one(api.Rule{Key: row(a), Post: row(s)})))
		none(t, imageByWords(one(api.Rule{Key: row(abc), Result: pieces(paired(0, s))})))
	}
	put(t, one(api.Rule{Key: row(abc), Result: pieces(paired(0, abc))}))
}
