package book_test

import (
	"fmt"
	"math"
	"slices"
	"strings"
	"sync"
	"testing"

	"respell/api"
	"respell/book"
)

// What holds everywhere: R1 to R5.

func TestEveryCallEnds(t *testing.T) { // R1, R2
	numbers := []int{math.MinInt, math.MinInt + 1, -1, 0, 1, 2, 'a', 255, 512, 0xD800, maxRune, maxRune + 1, firstRaw, lastRaw + 1, 1 << 32, math.MaxInt - 1, math.MaxInt}
	codes := map[api.Errno]int{}
	for _, x := range numbers {
		for _, y := range numbers {
			for kind := -1; kind <= 4; kind++ {
				for _, s := range []api.Set{abc, of(x, y), of(x, x, y, y), of('a', 'c', x, y), nil} {
					near := api.Rule{Ante: row(abc), Key: row(abc, s), Post: row(s), Result: pieces(api.Piece{Kind: kind, Unit: x, Key: y, To: s}), Cursor: y}
					single := api.Rule{Key: row(s), Result: pieces(api.Piece{Kind: kind, Unit: y, To: s}), Cursor: 1}
					two := api.Rule{Key: row(abc, abc), Result: pieces(again(1), api.Piece{Kind: kind, Unit: x}), Cursor: y}
					last := api.Rule{Key: row(abc, abc), Result: pieces(api.Piece{Kind: kind, Key: x, To: s}), Cursor: y}
					for _, l := range [][]api.Pass{one(near, single), one(single), one(two), {{}, rules(last)}, one(two, last), {rules(last), rules(near)}} {
						_, e := plainByWords(l)
						codes[e]++
						if e == api.OK {
							plain(t, l)
						} else {
							unwritten(t, l, e)
						}
					}
				}
			}
		}
	}
	if codes[api.OK] < 100 || codes[api.ErrBookPass] < 1000 {
		t.Errorf("%v", codes)
	}
	for _, n := range []int{257, 100000} {
		great := api.Rule{Ante: slices.Repeat(row(a), n), Key: slices.Repeat(row(a), n), Post: slices.Repeat(row(a), n)}
		unwritten(t, one(great), api.ErrBookPass)
		unwritten(t, one(slices.Repeat([]api.Rule{great}, n)...), api.ErrBookPass)
		unwritten(t, slices.Repeat(one(slices.Repeat([]api.Rule{great}, n)...), n), api.ErrBookPass)
	}
}

// Texts of the most of one thing.
func TestManyOfOneThing(t *testing.T) { // R1
	for _, x := range []string{"a", ";", "a>;", "then;", "[", "]", "[[", "$v=", "$v=a;", "@1", "@1:", "^", "{", "}", "|", "\\", "\\b{80}", "\\x{10FFFF}", "#", "#\n", "\n", "\x00", "\xFF", "é", ".", ".>@1:.;", "[:any:]>;", "[^", "[^]>;", "a-", "$", "a>|a;", "[:", "[:any:]"} {
		for _, n := range []int{1, 2, 17, 257, 600, 32768 / len(x), 1 << 16} {
			text := strings.Repeat(x, n)
			if _, fault := readByWords(text); fault.Code != api.OK {
				refused(t, text, fault.At, fault.Code)
			} else {
				ranByWords(t, text, "aé\xFF")
				told(t, text)
			}
		}
	}
}

func TestNilAndEmptyAreTheSame(t *testing.T) { // R3
	for _, m := range []maker{made(261, 0), made(262, 3)} {
		for range 800 {
			l := m.passes(3, 3)
			k := append([]api.Pass{}, l...)
			for n, p := range l {
				k[n].Rules = append([]api.Rule{}, p.Rules...)
				for i, r := range k[n].Rules {
					r.Ante, r.Key, r.Post = append([]api.Set{}, r.Ante...), append([]api.Set{}, r.Key...), append([]api.Set{}, r.Post...)
					r.Result = append([]api.Piece{}, r.Result...)
					for k := range r.Result {
						r.Result[k].To = append(api.Set{}, r.Result[k].To...)
					}
					k[n].Rules[i] = r
				}
			}
			text, e := book.Plain(l)
			if again, f := book.Plain(k); again != text || f != e {
				t.Fatalf("%s: %s, %d, and with empty lists %s, %d", brief(l), brief(text), e, brief(again), f)
			}
		}
	}
}

// roomy is a copy of a list with spare room behind it that has something in it.
func roomy[T any](l []T, spare T) []T {
	return append(slices.Clone(l), spare, spare, spare)[:len(l)]
}

func roomySets(l []api.Set) []api.Set {
	out := roomy(l, of(-7, -8))
	for i, s := range out {
		out[i] = roomy(s, api.Range{Lo: -7, Hi: -8})
	}
	return out
}

func roomyPasses(l []api.Pass) []api.Pass {
	out := roomy(l, rules(api.Rule{Cursor: -7}))
	for n, p := range out {
		p.Rules = roomy(p.Rules, api.Rule{Cursor: -7})
		for i, r := range p.Rules {
			r.Ante, r.Key, r.Post, r.Result = roomySets(r.Ante), roomySets(r.Key), roomySets(r.Post), roomy(r.Result, unit(-7))
			for k, x := range r.Result {
				r.Result[k].To = roomy(x.To, api.Range{Lo: -7, Hi: -8})
			}
			p.Rules[i] = r
		}
		out[n] = p
	}
	return out
}

// seen tells all that stands in the lists of passes, the spare room too.
func seen(l []api.Pass) string {
	var b strings.Builder
	for _, p := range l[:cap(l)] {
		for _, r := range p.Rules[:cap(p.Rules)] {
			fmt.Fprint(&b, r)
			for _, l := range [][]api.Set{r.Ante, r.Key, r.Post} {
				for _, s := range l[:cap(l)] {
					fmt.Fprint(&b, s[:cap(s)])
				}
			}
			for _, x := range r.Result[:cap(r.Result)] {
				fmt.Fprint(&b, x, x.To[:cap(x.To)])
			}
		}
	}
	return b.String()
}

func TestWhatIsHandedInStays(t *testing.T) { // R4
	for _, m := range []maker{made(263, 0), made(264, 3)} {
		for range 600 {
			l := roomyPasses(m.passes(4, 4))
			before := seen(l)
			text, e := book.Plain(l)
			if seen(l) != before {
				t.Fatalf("what was handed in has changed: %s", brief(l))
			}
			if want, code := plainByWords(l); text != want || e != code {
				t.Fatalf("Plain of %s: %s, %d; want %s, %d", brief(l), brief(text), e, brief(want), code)
			}
		}
	}
}

func TestWhatIsHandedInIsNotKept(t *testing.T) { // R4, R5
	l := read(t, "^ 1 { [ab]c } 2 > @1:[xy] | d ; e > ; then ; f > ff ;")
	want := textByWords(l)
	is(t, l, want)
	l[0].Rules[0].Key[0][0].Hi, l[0].Rules[0].Result[0].To[0].Hi = 'c', 'z'
	l[0].Rules[1].Key[0] = abc
	l[1].Rules = nil
	is(t, l, "^ 1 { [a-c] c } 2 > @1:[x-z] | d ;\n[a-c] > ;\nthen ;\n")
	is(t, read(t, want), want)
}

// What stands behind the end of a text, or of a list, is not read.
func TestTheRoomBehindIsNotRead(t *testing.T) { // R4
	for _, text := range samples {
		both := text + " ; \\q a ; then ;"
		opened(t, both[:len(text)])
		told(t, both[:len(text)])
		ranByWords(t, both[:len(text)], "abc1\xE2a\x82")
	}
	l := read(t, "a > b ; c > d ; then ; e > f ;")
	is(t, l[:1], "a > b ;\nc > d ;\n")
	l[0].Rules = l[0].Rules[:1]
	is(t, l[:1], "a > b ;\n")
	is(t, l, "a > b ;\nthen ;\ne > f ;\n")
	unwritten(t, l[:0], api.ErrBookPass)
}

func TestWhatIsHandedOutIsTheCallers(t *testing.T) { // R4: of the chains that Open answers
	const text = "a > b ; then ; b > cc ;"
	one, _ := opened(t, text)
	other, _ := opened(t, text)
	texts, _ := one.Each("ab")
	blocks, _ := one.Blocks("ab")
	for n := range texts {
		texts[n] = "x"
	}
	for n := range blocks {
		blocks[n] = api.Block{S0: -1}
	}
	x, y := one.Stream(), other.Stream()
	told := x.Put([]byte("ab"))
	for n := range told {
		told[n] = 'x'
	}
	x.Close()
	if made := string(y.Put([]byte("ab"))); made != "cccc" {
		t.Errorf("%q", made)
	}
	same(t, one, other, "ab")
	sameAsPasses(t, one, read(t, text), "aabxb")
}

func TestOneAnswer(t *testing.T) { // R5: earlier calls are not seen
	const good = "$v = [ab] ; $v > @1:[xy] ; then ; 1 { c > d ; then ;"
	const back = "then ;\n1 { d > c ;\nthen ;\n[x-y] > @1:[a-b] ;\n"
	for _, text := range append(slices.Clone(samples), "\\q", "a ;", "$v > ;", "$v = a ; $v = b ;", "a > | a ;", strings.Repeat("then ;", 16), "a > ;", "a > x ; b > x ;", broad(40000), "$q = a ; $w = b ;") {
		for range 3 {
			c, fault := book.Open(text)
			if c != nil {
				c.Run("ab1c")
			}
			book.Run(text, "ab1c")
			book.Back(text)
			if l, f := readByWords(text); f == fault && l != nil {
				book.Plain(l)
			}
			turned(t, good, back)
			ran(t, good, "ab1c", "xy1d")
			is(t, read(t, good), "[a-b] > @1:[x-y] ;\nthen ;\n1 { c > d ;\nthen ;\n")
			refused(t, "$v > x ;", 0, api.ErrNamesNone)
			refused(t, "$w > x ;", 0, api.ErrNamesNone)
		}
	}
}

func TestManyCallersSideBySide(t *testing.T) { // R5
	m := made(265, 0)
	var wait sync.WaitGroup
	for range 10 {
		text := m.drawn(8, false).text()
		l, fault := readByWords(text)
		passes := append(m.passes(3, 3), api.Pass{})
		want, code := plainByWords(passes)
		made, e := runByWords(l, "abxy1\xE2é")
		back, n, f := "", 0, api.OK
		if fault.Code == api.OK {
			back, n, f = backByWords(l)
		} else {
			made, e = "", api.OK
		}
		for range 4 {
			wait.Go(func() {
				for range 10 {
					if got, g := book.Plain(passes); got != want || g != code {
						t.Errorf("Plain of %s: %s, %d", brief(passes), brief(got), g)
					}
					if got, x, g := book.Run(text, "abxy1\xE2é"); got != made || x != fault || g != e {
						t.Errorf("Run of %s: %q, %v, %d", brief(text), got, x, g)
					}
					if got, x, k, g := book.Back(text); got != back || x != fault || k != n || g != f {
						t.Errorf("Back of %s: %s, %v, %d, %d", brief(text), brief(got), x, k, g)
					}
				}
			})
		}
	}
	wait.Wait()
}
