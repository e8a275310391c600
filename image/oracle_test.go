package image_test

import (
	"bytes"
	"encoding/hex"
	"fmt"
	"hash/crc32"
	"math"
	"math/rand"
	"slices"
	"strings"
	"testing"

	"respell/api"
	"respell/image"
	"respell/rule"
)

// What the chapter says, worked out anew: numbers are written to the base 16, the check is that of Go's library, and an image is what comes out as it is when it is read and written again.

// page is an image as it is written, to the base 16.
type page struct{ strings.Builder }

func (w *page) number(width int, l ...int) {
	for _, n := range l {
		fmt.Fprintf(w, "%0*X", 2*width, n)
	}
}

func (w *page) set(s api.Set) {
	w.number(2, len(s))
	for _, x := range s {
		w.number(3, x.Lo, x.Hi)
	}
}

func (w *page) row(l []api.Set) {
	w.number(1, len(l))
	for _, s := range l {
		w.set(s)
	}
}

func (w *page) piece(x api.Piece) {
	w.number(1, x.Kind)
	if x.Kind == api.PUnit {
		w.number(3, x.Unit)
	}
	if x.Kind == api.PCopy || x.Kind == api.PPair {
		w.number(1, x.Key)
	}
	if x.Kind == api.PPair {
		w.set(x.To)
	}
}

func (w *page) rule(r api.Rule) {
	w.number(1, map[[2]bool]int{{false, false}: 0, {true, false}: 1, {false, true}: 2, {true, true}: 3}[[2]bool{r.Begin, r.End}])
	w.row(r.Ante)
	w.row(r.Key)
	w.row(r.Post)
	w.number(1, len(r.Result))
	for _, x := range r.Result {
		w.piece(x)
	}
	w.number(1, r.Cursor)
}

// bare is an image without its check, of any passes whose numbers have room where they stand; nothing of others.
func bare(l []api.Pass) []byte {
	var w page
	w.WriteString(fmt.Sprintf("%X", "RS"))
	w.number(1, len(l))
	for _, p := range l {
		w.number(2, len(p.Rules))
		for _, r := range p.Rules {
			w.rule(r)
		}
	}
	b, _ := hex.DecodeString(w.String())
	return b
}

// sealed is bytes and their check.
func sealed(b []byte) []byte {
	n := crc32.ChecksumIEEE(b)
	return append(slices.Clone(b), byte(n), byte(n>>8), byte(n>>16), byte(n>>24))
}

// unsealed is an image without its check.
func unsealed(b []byte) []byte { return slices.Clone(b[:len(b)-4]) }

func imageByWords(l []api.Pass) []byte { return sealed(bare(l)) }

func errorByWords(l []api.Pass) api.Errno {
	if len(l) > 16 {
		return api.ErrArg
	}
	for _, p := range l {
		if _, e := rule.All(p); e != api.OK {
			return e
		}
	}
	return api.OK
}

// eyes read bytes, and panic where there are none.
type eyes struct{ left []byte }

func (r *eyes) number(width int) int {
	n := 0
	for _, b := range r.left[:width:len(r.left)] {
		n = 256*n + int(b)
	}
	r.left = r.left[width:]
	return n
}

func (r *eyes) set() api.Set {
	var s api.Set
	for n := r.number(2); n > 0; n-- {
		lo := r.number(3)
		s = append(s, api.Range{Lo: lo, Hi: r.number(3)})
	}
	return s
}

func (r *eyes) row() []api.Set {
	var l []api.Set
	for n := r.number(1); n > 0; n-- {
		l = append(l, r.set())
	}
	return l
}

func (r *eyes) result() []api.Piece {
	var l []api.Piece
	for n := r.number(1); n > 0; n-- {
		x := api.Piece{Kind: r.number(1)}
		if x.Kind == api.PUnit {
			x.Unit = r.number(3)
		}
		if x.Kind == api.PCopy || x.Kind == api.PPair {
			x.Key = r.number(1)
		}
		if x.Kind == api.PPair {
			x.To = r.set()
		}
		l = append(l, x)
	}
	return l
}

func (r *eyes) pass() api.Pass {
	var p api.Pass
	for n := r.number(2); n > 0; n-- {
		var x api.Rule
		ends := r.number(1)
		x.Begin, x.End = ends%2 == 1, ends/2%2 == 1
		x.Ante, x.Key, x.Post = r.row(), r.row(), r.row()
		x.Result = r.result()
		x.Cursor = r.number(1)
		p.Rules = append(p.Rules, x)
	}
	return p
}

// passesByWords is the passes of which bytes are the image; false: of none.
func passesByWords(b []byte) (l []api.Pass, is bool) {
	defer func() {
		if recover() != nil {
			l, is = nil, false
		}
	}()
	r := eyes{b[2:]}
	for n := r.number(1); n > 0; n-- {
		l = append(l, r.pass())
	}
	if errorByWords(l) != api.OK || !bytes.Equal(imageByWords(l), b) {
		return nil, false
	}
	return l, true
}

func samePasses(l, k []api.Pass) bool {
	return slices.EqualFunc(l, k, func(p, q api.Pass) bool { return slices.EqualFunc(p.Rules, q.Rules, rule.Same) })
}

// got holds what Get answers of bytes against the words, and is that.
func got(t *testing.T, b []byte) ([]api.Pass, bool) {
	t.Helper()
	l, e := image.Get(b)
	want, is := passesByWords(b)
	if is && (e != api.OK || !samePasses(l, want)) {
		t.Fatalf("Get of %s: %s, %d; want %s", dump(b), brief(l), e, brief(want))
	}
	if !is && (e != api.ErrImageForm || l != nil) {
		t.Fatalf("Get of %s: %s, %d; want ErrImageForm", dump(b), brief(l), e)
	}
	return l, is
}

// none holds that bytes are no image.
func none(t *testing.T, b []byte) {
	t.Helper()
	if l, is := got(t, b); is {
		t.Fatalf("%s should be no image, and not one of %s", dump(b), brief(l))
	}
}

// put holds what Put answers of passes that it takes against the words, and that they come back, both ways; and is their image.
func put(t *testing.T, l []api.Pass) []byte {
	t.Helper()
	b, e := image.Put(l)
	if want := imageByWords(l); e != api.OK || !bytes.Equal(b, want) {
		t.Fatalf("Put of %s: %s, %d; want %s", brief(l), dump(b), e, dump(want))
	}
	again, e := image.Get(b)
	if e != api.OK || !samePasses(again, l) {
		t.Fatalf("Get of Put of %s: %s, %d", brief(l), brief(again), e)
	}
	if twice, e := image.Put(again); e != api.OK || !bytes.Equal(twice, b) {
		t.Fatalf("Put of Get of %s: %s, %d", dump(b), dump(twice), e)
	}
	return b
}

// refused holds that Put refuses passes, and why.
func refused(t *testing.T, l []api.Pass, code api.Errno) {
	t.Helper()
	if b, e := image.Put(l); b != nil || e != code {
		t.Fatalf("Put of %d passes, %s: %s, %d; want %d", len(l), brief(l), dump(b), e, code)
	}
}

// maker makes passes. Of its rules one in wrong may not be, for some reason; 0: none.
type maker struct {
	*rand.Rand
	wrong int
}

func made(seed int64, wrong int) maker { return maker{rand.New(rand.NewSource(seed)), wrong} }

func pick[T any](m maker, l ...T) T { return l[m.Intn(len(l))] }

// crowd is units at all edges, of which some stand side by side.
var crowd = []int{0, 1, 2, 'a', 'b', 'c', 'x', 'y', 'z', 0x7F, 0x80, 0xFF, 0x100, 0x7FF, 0x800, 0xD7FE, 0xD7FF, 0xE000, 0xE001, 0xFFFD, 0xFFFF, 0x10000, 0x10001, maxRune - 1, maxRune, firstRaw, firstRaw + 1, 0x1100C3, lastRaw - 1, lastRaw}

// some is a set of n units.
func (m maker) some(n int) api.Set {
	l := slices.Clone(crowd)
	m.Shuffle(len(l), func(i, j int) { l[i], l[j] = l[j], l[i] })
	l = l[:n]
	slices.Sort(l)
	var s api.Set
	for _, u := range l {
		if k := len(s); k > 0 && s[k-1].Hi == u-1 {
			s[k-1].Hi = u
		} else {
			s = append(s, of(u, u)...)
		}
	}
	return s
}

func (m maker) row(least int) []api.Set {
	var l []api.Set
	for range least + pick(m, 0, 0, 0, 1, 1, 2, m.Intn(9-least)) {
		l = append(l, m.some(1+m.Intn(pick(m, 1, 3, len(crowd)))))
	}
	return l
}

// size is how many units a set has.
func size(s api.Set) int {
	n := 0
	for _, x := range s {
		n += x.Hi - x.Lo + 1
	}
	return n
}

func (m maker) piece(key []api.Set) api.Piece {
	place := m.Intn(len(key))
	return pick(m, unit(pick(m, crowd...)), again(place), paired(place, m.some(size(key[place]))))
}

func (m maker) rule() api.Rule {
	r := api.Rule{Begin: m.Intn(2) == 0, End: m.Intn(2) == 0, Ante: m.row(0), Key: m.row(1), Post: m.row(0)}
	for range pick(m, 0, 1, 2, 3, m.Intn(17)) {
		r.Result = append(r.Result, m.piece(r.Key))
	}
	r.Cursor = m.Intn(len(r.Result) + 1)
	if m.wrong > 0 && m.Intn(m.wrong) == 0 {
		m.spoil(&r)
	}
	return r
}

// spoil makes a rule one that may not be.
func (m maker) spoil(r *api.Rule) {
	switch m.Intn(8) {
	case 0:
		r.Key = nil
	case 1:
		r.Key = slices.Repeat(r.Key[:1], 9)
	case 2:
		r.Ante = slices.Repeat(r.Key[:1], 9)
	case 3:
		r.Post = append(r.Post, pick(m, nil, of('b', 'a'), of(0xD7FF, 0xE000), of('a', 'a', 'b', 'b'), of(-1, 0), of(maxRune+1, maxRune+1)))
	case 4:
		r.Result = slices.Repeat(pieces(unit('a')), 17)
	case 5:
		r.Result, r.Cursor = pieces(pick(m, api.Piece{}, unit(0xD800), unit(-1), unit(maxRune+1), api.Piece{Kind: 4}, api.Piece{Kind: 1, Key: 1}, api.Piece{Kind: 2, Unit: 1})), 0
	case 6:
		r.Result, r.Cursor = pieces(pick(m, again(-1), again(len(r.Key)), paired(len(r.Key), nil), paired(0, nil), paired(0, of(0, 0xFFF)))), 0
	case 7:
		r.Cursor = pick(m, -1, len(r.Result)+1, math.MinInt, math.MaxInt)
	}
}

// passes is up to so many, of up to so many rules each.
func (m maker) passes(most, rules int) []api.Pass {
	l := make([]api.Pass, m.Intn(most+1))
	for n := range l {
		for range m.Intn(rules + 1) {
			l[n].Rules = append(l[n].Rules, m.rule())
		}
	}
	return l
}

func TestTheCheckOfNineDigits(t *testing.T) { // what the images of these tests are held against
	if b := sealed([]byte("123456789")); !bytes.Equal(b, []byte("123456789\x26\x39\xF4\xCB")) {
		t.Errorf("%X", b)
	}
	none(t, []byte("123456789\x26\x39\xF4\xCB"))
	n := uint32(4294967295)
	for _, x := range []byte("123456789") {
		n ^= uint32(x)
		for range 8 {
			if n%2 == 1 {
				n = n/2 ^ 3988292384
			} else {
				n = n / 2
			}
		}
	}
	if ^n != crc32.ChecksumIEEE([]byte("123456789")) {
		t.Errorf("%X", ^n)
	}
}

func TestAnyPasses(t *testing.T) { // P21.1, P21.3
	codes, kinds, long := map[api.Errno]int{}, map[int]int{}, 0
	for _, m := range []maker{made(211, 0), made(212, 20), made(213, 3)} {
		for range 1500 {
			l := m.passes(pick(m, 1, 3, 3, 17), pick(m, 1, 2, 5))
			e := errorByWords(l)
			codes[e]++
			if e != api.OK {
				refused(t, l, e)
				continue
			}
			if b := put(t, l); len(b) > 1000 {
				long++
			}
			for _, p := range l {
				for _, r := range p.Rules {
					for _, x := range r.Result {
						kinds[x.Kind]++
					}
				}
			}
		}
	}
	for e := api.ErrRuleKey; e <= api.ErrRuleCursor; e++ {
		if codes[e] < 30 {
			t.Errorf("%d only %d times: %v", e, codes[e], codes)
		}
	}
	if codes[api.OK] < 1500 || codes[api.ErrArg] < 20 || long < 100 || kinds[1] < 1000 || kinds[2] < 1000 || kinds[3] < 1000 {
		t.Errorf("the passes are too tame or too wild: %v, %v, %d long images", codes, kinds, long)
	}
}

// Images of which bytes are changed, left out, put in or doubled; the check is made anew, so that it is the form that tells.
func TestAnyImagesChanged(t *testing.T) { // P21.2
	m, still := made(214, 0), 0
	for range 12000 {
		b := unsealed(imageByWords(m.passes(3, 3)))
		for range 1 + m.Intn(3) {
			at := m.Intn(len(b) + 1)
			upTo := min(len(b), at+m.Intn(4))
			b = slices.Replace(b, at, upTo, pick(m, nil, []byte{byte(m.Intn(256))}, []byte{byte(m.Intn(4))}, slices.Clone(b[at:upTo]), slices.Repeat(b[at:upTo], 2))...)
		}
		if _, is := got(t, sealed(b)); is {
			still++
		}
		if l, e := image.Get(b); e != api.ErrImageForm || l != nil {
			t.Fatalf("Get of %s: %s, %d", dump(b), brief(l), e)
		}
	}
	if still < 1000 || still > 9000 {
		t.Errorf("of 12000 changed ones %d are images", still)
	}
}
