package scan_test

import (
	"math"
	"strings"
	"sync"
	"testing"

	"respell/api"
	"respell/scan"
)

// What holds everywhere: R1 to R5.

const sample = "$v = [:x:] ;\nthen # on\n; ^ $v { a-é } . $ > @12 | \\b{80} \\; ;"

func sampleTokens() []api.Token {
	return []api.Token{
		name(0, 2, "$v"), sign(3, 21), name(5, 5, ":x:"), sign(11, 11), name(13, 4, "then"), sign(23, 11), sign(25, 15), name(27, 2, "$v"), sign(30, 12), unit(32, 1, 'a'), sign(33, 20), unit(34, 2, 0xE9), sign(37, 13), sign(39, 17), sign(41, 16), sign(43, 10), copied(45, 3, 12), sign(49, 14), unit(51, 6, 0x110080), unit(58, 2, ';'), sign(61, 11),
	}
}

func spoil(l []api.Token) {
	l = l[:cap(l)]
	for i := range l {
		l[i] = api.Token{Kind: -1, At: math.MinInt, Len: -7, Unit: -1, Text: "spoilt", Num: math.MaxInt}
	}
}

func TestWhatIsToldIsTheCallers(t *testing.T) { // R4
	earlier, _ := scan.Scan(sample)
	for range 3 {
		l, f := scan.Scan(sample)
		if f != (api.Fault{}) {
			t.Fatal(f)
		}
		spoil(l)
		spoil(append(l, api.Token{}))
		wantScan(t, sample, sampleTokens(), api.Fault{})
		wantScan(t, "a", units(0, "a"), api.Fault{})
	}
	if !equal(earlier, sampleTokens()) {
		t.Errorf("an earlier answer: %v", earlier)
	}
}

func TestNothingBesideAnError(t *testing.T) { // R2
	for _, s := range []string{sample + ",", sample + `\`, sample + "[:", sample + "@0", sample + "[:]", strings.Repeat(sample, 1000)} {
		if l, f := scan.Scan(s); len(l) != 0 || f.Code == api.OK {
			t.Errorf("%.100q: %d tokens, %v", s, len(l), f)
		}
	}
}

func TestFaultsLeaveNoTrace(t *testing.T) { // R5
	for _, s := range []string{",", `\q`, "[:", "@", "then,", ";", "then", "\xC3", strings.Repeat(" ", 40000)} {
		scan.Scan(s)
		scan.Write(-1)
		scan.Sign(9)
		wantScan(t, sample, sampleTokens(), api.Fault{})
		wantScan(t, "then;", []api.Token{name(0, 4, "then"), sign(4, 11)}, api.Fault{})
	}
}

// Long texts of what makes a scanner look far ahead, or go back.
func TestEveryScanEnds(t *testing.T) { // R1
	for _, s := range pieces {
		for _, ahead := range []string{"", "a", ";", `\x{`, "[:"} {
			against(t, ahead+strings.Repeat(s, 200))
			for _, n := range []int{32768, 32769} {
				all := ahead + strings.Repeat(s, n)
				scan.Scan(all[:n])
			}
		}
	}
	for _, s := range []string{";then ", "then#\n", "then;", "[:a:]", "$v"} {
		all := strings.Repeat(s, 32768/len(s))
		if l, f := scan.Scan(all); f != (api.Fault{}) || len(l) == 0 {
			t.Errorf("many of %q: %d tokens, %v", s, len(l), f)
		}
	}
}

func TestSideBySide(t *testing.T) { // R4, R5
	var all sync.WaitGroup
	for range 8 {
		all.Go(func() {
			for range 50 {
				wantScan(t, sample, sampleTokens(), api.Fault{})
				wantScan(t, "a,", nil, api.Fault{At: 1, Code: api.ErrScanByte})
				l, _ := scan.Scan(sample)
				spoil(l)
				if s, err := scan.Write(0xE9); s != `\x{E9}` || err != api.OK || scan.Sign(10) != ">" {
					t.Errorf("side by side: %q, %d", s, err)
				}
			}
		})
	}
	all.Wait()
}
