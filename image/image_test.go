package image_test

import (
	"bytes"
	"encoding/hex"
	"fmt"
	"slices"
	"strings"
	"testing"

	"respell/api"
	"respell/image"
	"respell/names"
	"respell/parse"
	"respell/rule"
	"respell/weigh"
)

// How passes are written in these tests: as a rules' text has them, or by hand where that can't.

// read is the passes of a rules' text; the last ; may be left out.
func read(t *testing.T, text string) []api.Pass {
	t.Helper()
	if text = strings.TrimSpace(text); text != "" && !strings.HasSuffix(text, ";") {
		text += " ;"
	}
	lines, fault := parse.Parse(text)
	if fault.Code != api.OK {
		t.Fatalf("%s: %v", text, fault)
	}
	l, line, e := names.Passes(lines)
	if e != api.OK {
		t.Fatalf("%s: %d, %d", text, line, e)
	}
	return l
}

func of(n ...int) api.Set {
	var s api.Set
	for i := 0; i+1 < len(n); i += 2 {
		s = append(s, api.Range{Lo: n[i], Hi: n[i+1]})
	}
	return s
}

func row(l ...api.Set) []api.Set { return l }

func pieces(l ...api.Piece) []api.Piece { return l }

func unit(u int) api.Piece               { return api.Piece{Kind: api.PUnit, Unit: u} }
func again(k int) api.Piece              { return api.Piece{Kind: api.PCopy, Key: k} }
func paired(k int, to api.Set) api.Piece { return api.Piece{Kind: api.PPair, Key: k, To: to} }

func rules(l ...api.Rule) api.Pass { return api.Pass{Rules: l} }

// one is a pass by itself, of some rules.
func one(l ...api.Rule) []api.Pass { return []api.Pass{rules(l...)} }

func brief(l []api.Pass) string { return fmt.Sprintf("%.400s", fmt.Sprint(l)) }

func dump(b []byte) string { return fmt.Sprintf("%.400s", fmt.Sprintf("% X", b)) }

const (
	maxRune  = 0x10FFFF
	firstRaw = 0x110080
	lastRaw  = 0x1100FF
)

var (
	a   = of('a', 'a')
	abc = of('a', 'c')
)

// each is n ranges of a unit each, of which no two touch.
func each(from, n int) api.Set {
	var s api.Set
	for i := range n {
		s = append(s, api.Range{Lo: from + 2*i, Hi: from + 2*i})
	}
	return s
}

func TestExamples(t *testing.T) { // P21.1, P21.2
	const ab = "52 53 01 00 01 00 00 01 00 01 00 00 61 00 00 61 00 01 01 00 00 62 01"
	const xz = "52 53 01 00 01 01 00 01 00 01 00 00 61 00 00 63 00 01 03 00 00 01 00 00 78 00 00 7A 00"
	for _, x := range []struct {
		l    []api.Pass
		want string
	}{
		{nil, "52 53 00"}, {[]api.Pass{}, "52 53 00"}, {one(), "52 53 01 00 00"}, {read(t, "a > b ;"), ab}, {read(t, "^ { [a-c] > | @1:[x-z] ;"), xz},
	} {
		bare, _ := hex.DecodeString(strings.ReplaceAll(x.want, " ", ""))
		b := put(t, x.l)
		if !bytes.Equal(b, sealed(bare)) {
			t.Errorf("%s: %s; want %s", brief(x.l), dump(b), x.want)
		}
		if l, is := got(t, b); !is || !samePasses(l, x.l) {
			t.Errorf("%s: %s", x.want, brief(l))
		}
	}
	// The check, worked out elsewhere.
	first := put(t, nil)
	if want := []byte("RS\x00\x5B\x2D\xEF\x01"); !bytes.Equal(first, want) {
		t.Errorf("% X; want % X", first, want)
	}
	none(t, append([]byte("RS\x00"), put(t, one())[5:]...))
	none(t, append(first, 0))
	none(t, nil)
	none(t, []byte{})
}

func TestNilAndEmptyImages(t *testing.T) { // R2, R3
	if l, e := image.Get(put(t, nil)); len(l) != 0 || e != api.OK {
		t.Errorf("%v, %d", l, e)
	}
	if l, e := image.Get(put(t, one())); len(l) != 1 || len(l[0].Rules) != 0 || e != api.OK {
		t.Errorf("%v, %d", l, e)
	}
}

// full is a rule that may be, with something of all kinds.
func full() api.Rule {
	return api.Rule{
		Begin: true, Ante: row(abc, of(0, 0xD7FF)), Key: row(abc, of('0', '9'), of(firstRaw, lastRaw)), Post: row(of(maxRune, maxRune), a, of(lastRaw, lastRaw)), End: true,
		Result: pieces(unit('x'), again(1), paired(0, of('p', 'p', 'x', 'y')), unit(lastRaw)), Cursor: 2,
	}
}

// flaws make a rule one that may not be, each for one reason alone.
var flaws = []struct {
	code api.Errno
	put  func(r *api.Rule)
}{
	{api.ErrRuleKey, func(r *api.Rule) { r.Key, r.Result, r.Cursor = nil, nil, 0 }},
	{api.ErrRuleKey, func(r *api.Rule) { r.Key = slices.Concat(r.Key, r.Key, r.Key) }},
	{api.ErrRuleMany, func(r *api.Rule) { r.Ante = slices.Repeat(row(a), 9) }},
	{api.ErrRuleMany, func(r *api.Rule) { r.Post = slices.Repeat(row(a), 9) }},
	{api.ErrRuleMany, func(r *api.Rule) { r.Result = slices.Repeat(pieces(unit('a')), 17) }},
	{api.ErrRuleSet, func(r *api.Rule) { r.Ante[1] = nil }},
	{api.ErrRuleSet, func(r *api.Rule) { r.Key[2] = of('b', 'a') }},
	{api.ErrRuleSet, func(r *api.Rule) { r.Key[1] = of('0', '4', '5', '9') }},
	{api.ErrRuleSet, func(r *api.Rule) { r.Key[2] = of('x', 'z', 'a', 'c') }},
	{api.ErrRuleSet, func(r *api.Rule) { r.Post[0] = of(0, maxRune) }},
	{api.ErrRuleSet, func(r *api.Rule) { r.Post[2] = each(0, 513) }},
	{api.ErrRuleSet, func(r *api.Rule) { r.Post[0] = of(0x11007F, 0x110080) }},
	{api.ErrRuleSet, func(r *api.Rule) { r.Post[0] = of(lastRaw, lastRaw+1) }},
	{api.ErrRulePiece, func(r *api.Rule) { r.Result[3] = api.Piece{} }},
	{api.ErrRulePiece, func(r *api.Rule) { r.Result[3].Kind = 4 }},
	{api.ErrRulePiece, func(r *api.Rule) { r.Result[3].Unit = 0xDFFF }},
	{api.ErrRulePiece, func(r *api.Rule) { r.Result[3].Unit = lastRaw + 1 }},
	{api.ErrRuleCopy, func(r *api.Rule) { r.Result[1].Key = 3 }},
	{api.ErrRuleCopy, func(r *api.Rule) { r.Result[2].Key = 255 }},
	{api.ErrRulePair, func(r *api.Rule) { r.Result[2].To = nil }},
	{api.ErrRulePair, func(r *api.Rule) { r.Result[2].To = of('x', 'y') }},
	{api.ErrRulePair, func(r *api.Rule) { r.Result[2].To = of('x', 'y', 'z', 'z') }},
	{api.ErrRuleCursor, func(r *api.Rule) { r.Cursor = 5 }},
	{api.ErrRuleCursor, func(r *api.Rule) { r.Cursor = 255 }},
}

// unwritten are such that an image has no room for.
var unwritten = []struct {
	code api.Errno
	put  func(r *api.Rule)
}{
	{api.ErrRuleKey, func(r *api.Rule) { r.Key = slices.Repeat(r.Key[1:2], 257) }},
	{api.ErrRuleMany, func(r *api.Rule) { r.Ante = slices.Repeat(row(a), 256) }},
	{api.ErrRuleSet, func(r *api.Rule) { r.Ante[0] = each(0xE000, 65536) }},
	{api.ErrRuleSet, func(r *api.Rule) { r.Ante[0] = of(-1, 0) }},
	{api.ErrRuleSet, func(r *api.Rule) { r.Ante[0] = of(0x1000061, 0x1000062) }},
	{api.ErrRulePiece, func(r *api.Rule) { r.Result[3].Kind = 257 }},
	{api.ErrRulePiece, func(r *api.Rule) { r.Result[3].Kind = -1 }},
	{api.ErrRulePiece, func(r *api.Rule) { r.Result[3].Unit = -1 }},
	{api.ErrRulePiece, func(r *api.Rule) { r.Result[0].Unit = 0x1000061 }},
	{api.ErrRulePiece, func(r *api.Rule) { r.Result[0].Key = 1 }},
	{api.ErrRulePiece, func(r *api.Rule) { r.Result[0].To = a }},
	{api.ErrRulePiece, func(r *api.Rule) { r.Result[1].Unit = 'a' }},
	{api.ErrRulePiece, func(r *api.Rule) { r.Result[1].To = a }},
	{api.ErrRulePiece, func(r *api.Rule) { r.Result[2].Unit = 'a' }},
	{api.ErrRuleCopy, func(r *api.Rule) { r.Result[1].Key = -1 }},
	{api.ErrRuleCopy, func(r *api.Rule) { r.Result[1].Key = 257 }},
	{api.ErrRuleCursor, func(r *api.Rule) { r.Cursor = -1 }},
	{api.ErrRuleCursor, func(r *api.Rule) { r.Cursor = 258 }},
}

// flawed is a rule that is refused, one of both tables; and why.
func flawed(n int) (api.Rule, api.Errno) {
	x := slices.Concat(flaws, unwritten)[n]
	r := full()
	x.put(&r)
	return r, x.code
}

func TestEachErrorAlone(t *testing.T) { // P21.1, R2
	put(t, one(full()))
	codes := map[api.Errno]int{}
	for n := range len(flaws) + len(unwritten) {
		r, code := flawed(n)
		codes[code]++
		refused(t, one(r), code)
		refused(t, one(full(), r), code)
		refused(t, one(r, full()), code)
		for place := range 16 {
			l := slices.Repeat(one(full()), 16)
			l[place] = rules(full(), r)
			refused(t, l, code)
			l[place] = rules(full(), full())
			put(t, l)
		}
	}
	for e := api.ErrRuleKey; e <= api.ErrRuleCursor; e++ {
		if codes[e] == 0 {
			t.Errorf("no rule is refused by %d", e)
		}
	}
	many := slices.Repeat([]api.Rule{{Key: row(a)}}, 257)
	refused(t, one(many...), api.ErrRuleMany)
	refused(t, []api.Pass{{}, rules(many...)}, api.ErrRuleMany)
	for _, n := range []int{258, 65535, 65536, 65537} {
		refused(t, one(slices.Repeat(many[:1], n)...), api.ErrRuleMany)
	}
}

func TestMostPasses(t *testing.T) { // P21.1: ErrArg
	for n := range 17 {
		put(t, make([]api.Pass, n))
		put(t, slices.Repeat(one(full()), n))
		put(t, slices.Repeat(read(t, "a > b"), n))
	}
	for _, n := range []int{17, 18, 32, 255, 256, 257, 272, 65536, 100000} {
		refused(t, make([]api.Pass, n), api.ErrArg)
		refused(t, slices.Repeat(one(full()), n), api.ErrArg)
	}
}

func TestTooManyPassesAreToldFirst(t *testing.T) { // P21.1: ErrArg ahead of rule.All's
	for n := range len(flaws) + len(unwritten) {
		r, code := flawed(n)
		for place := range 17 {
			l := make([]api.Pass, 17)
			l[place] = rules(r)
			refused(t, l, api.ErrArg)
			l = l[:16]
			if place < 16 {
				refused(t, l, code)
			}
		}
		refused(t, slices.Repeat(one(r), 17), api.ErrArg)
	}
	refused(t, slices.Repeat(one(make([]api.Rule, 257)...), 17), api.ErrArg)
}

func TestOfTwoPassesTheFirst(t *testing.T) { // P21.1: of two passes that are refused
	all := len(flaws) + len(unwritten)
	for i := range all {
		for j := range all {
			r, one := flawed(i)
			s, other := flawed(j)
			l := []api.Pass{{}, rules(full(), r), rules(full()), rules(s, full())}
			refused(t, l, one)
			slices.Reverse(l)
			refused(t, l, other)
			// Of one pass it is the first rule that tells.
			refused(t, []api.Pass{rules(full(), s, r), rules(r)}, other)
		}
		r, code := flawed(i)
		many := rules(make([]api.Rule, 257)...)
		refused(t, []api.Pass{many, rules(r)}, api.ErrRuleMany)
		refused(t, []api.Pass{rules(r), many}, code)
	}
}

func TestPassesThatMightNotEnd(t *testing.T) { // P21.1: weigh.Check is not asked
	codes := map[api.Errno]int{}
	for _, text := range []string{"a > | b ; b > | a", "ab > | ba", "[ab]c > | @1", "abc > | @3@3", "a > | a", "a > | bbbbbbbb ; b > | cccccccc", "[a-c] > | @1:[a-c]"} {
		l := read(t, text)
		_, e := weigh.Check(l[0])
		if _, f := rule.All(l[0]); e == api.OK || f != api.OK {
			t.Fatalf("%s: %d, %d", text, e, f)
		}
		codes[e]++
		put(t, l)
		put(t, slices.Concat(read(t, "a > b"), l, l))
	}
	if len(codes) != 2 {
		t.Errorf("%v", codes)
	}
}

func TestMostOfEverything(t *testing.T) { // P21.1: what the counts stand for
	small := api.Rule{Key: row(a)}
	for _, n := range []int{0, 1, 2, 127, 128, 255, 256} {
		put(t, one(slices.Repeat([]api.Rule{small}, n)...))
		put(t, []api.Pass{rules(small), rules(slices.Repeat([]api.Rule{small}, n)...), {}})
	}
	for n := range 9 {
		l := slices.Repeat(row(abc), n)
		put(t, one(api.Rule{Ante: l, Key: row(a)}))
		put(t, one(api.Rule{Key: row(a), Post: l}))
		put(t, one(api.Rule{Ante: l, Key: slices.Repeat(row(a), max(n, 1)), Post: l}))
	}
	for _, n := range []int{1, 2, 255, 256, 257, 511, 512} {
		s, to := each(0, n), each(0xF000, n)
		put(t, one(api.Rule{Ante: row(s), Key: row(a)}))
		put(t, one(api.Rule{Key: row(a, s), Result: pieces(paired(1, to))}))
		put(t, one(api.Rule{Key: row(a), Post: row(to)}))
	}
	for n := range 17 {
		for cursor := range n + 1 { // each Cursor that may be
			put(t, one(api.Rule{Key: row(abc), Result: slices.Repeat(pieces(unit('x'), again(0), paired(0, of('x', 'z'))), 6)[:n], Cursor: cursor}))
		}
	}
}

// greatest is a pass of as many rules as may be, each as long as may be.
func greatest() api.Pass {
	most := each(0x10000, 512)
	r := api.Rule{Begin: true, End: true, Ante: slices.Repeat(row(most), 8), Key: slices.Repeat(row(most), 8), Post: slices.Repeat(row(most), 8), Result: slices.Repeat(pieces(paired(7, most)), 16), Cursor: 16}
	return rules(slices.Repeat([]api.Rule{r}, 256)...)
}

func TestTheGreatestPass(t *testing.T) { // P21.1, P21.2, R1
	l := []api.Pass{{}, greatest()}
	b, e := image.Put(l)
	if want := 3 + 2 + 2 + 256*(1+3+24*(2+512*6)+1+16*(1+1+2+512*6)+1) + 4; e != api.OK || len(b) != want {
		t.Fatalf("%d bytes, %d; want %d", len(b), e, want)
	}
	if !bytes.Equal(b, sealed(unsealed(b))) {
		t.Error("its check")
	}
	again, e := image.Get(b)
	if e != api.OK || !samePasses(again, l) {
		t.Errorf("%d passes, %d", len(again), e)
	}
	b[len(b)/2] ^= 8
	if again, e := image.Get(b); again != nil || e != api.ErrImageForm {
		t.Errorf("%d passes, %d", len(again), e)
	}
}

func TestUnits(t *testing.T) { // P21.1: numbers of three bytes
	for _, u := range []int{0, 1, 0x7F, 0x80, 0xFF, 0x100, 0x101, 0x1FF, 0xD7FF, 0xE000, 0xFFFD, 0xFFFF, 0x10000, 0x10001, 0x100FF, 0x10100, 0xFFFFF, 0x100000, maxRune, firstRaw, 0x1100C3, lastRaw} {
		put(t, one(api.Rule{Key: row(of(u, u)), Result: pieces(unit(u), paired(0, of(u, u))), Cursor: 1}))
		put(t, one(api.Rule{Ante: row(of(u, u)), Key: row(a), Post: row(of(u, u))}))
	}
	for _, s := range []api.Set{of(0, 0xD7FF), of(0xE000, maxRune), of(firstRaw, lastRaw), of(0, 0xD7FF, 0xE000, maxRune, firstRaw, lastRaw)} {
		put(t, one(api.Rule{Ante: row(s), Key: row(s, s), Post: row(s), Result: pieces(paired(1, s))}))
	}
}

func TestPieces(t *testing.T) { // P21.1: every kind of piece, at every place
	key := slices.Repeat(row(abc), 8)
	for k := range 8 {
		put(t, one(api.Rule{Key: key, Result: pieces(unit('a'+k), again(k), paired(k, of('x', 'z')), again(7-k), unit(lastRaw-k)), Cursor: k % 6}))
		put(t, one(api.Rule{Key: key[:k+1], Result: pieces(again(k))}))
		put(t, one(api.Rule{Key: key[:k+1], Result: pieces(paired(k, of('x', 'z')))}))
	}
}

func TestBeginAndEnd(t *testing.T) { // P21.1: all four ways, with contexts and without
	unlike := map[string]int{}
	for n := range 16 {
		r := api.Rule{Key: row(a), Begin: n&1 > 0, End: n&2 > 0}
		if n&4 > 0 {
			r.Ante = row(abc)
		}
		if n&8 > 0 {
			r.Post = row(abc, a)
		}
		b := put(t, one(r))
		if b[5] != byte(n&3) {
			t.Errorf("%v: % X", r, b)
		}
		unlike[string(b)]++
	}
	if len(unlike) != 16 {
		t.Errorf("%d images of 16 passes", len(unlike))
	}
}
