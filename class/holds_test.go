package class_test

import (
	"math"
	"slices"
	"sync"
	"testing"

	"respell/api"
	"respell/class"
)

// What holds everywhere: R4, R5.

func spoilSet(s api.Set) {
	s = s[:cap(s)]
	for i := range s {
		s[i] = api.Range{Lo: math.MinInt, Hi: math.MaxInt}
	}
}

func spoilNames(l []string) {
	l = l[:cap(l)]
	for i := range l {
		l[i] = "spoilt"
	}
}

// same holds all answers against the chapter's tables.
func same(t *testing.T, when string) {
	t.Helper()
	if l := class.Names(); !slices.Equal(l, namesByWords()) {
		t.Errorf("%s: %q", when, l)
	}
	for _, row := range rows(setsByWords) {
		if s, err := class.Of(row[0]); !slices.Equal(s, spans(row[1])) || err != api.OK {
			t.Errorf("%s: Of(%q): %x, %d", when, row[0], s, err)
		}
	}
}

func TestWhatIsToldIsTheCallers(t *testing.T) { // R4
	earlier := class.Names()
	spoilNames(class.Names())
	if !slices.Equal(earlier, namesByWords()) {
		t.Errorf("earlier names: %q", earlier)
	}
	same(t, "names written over")
	for _, name := range namesByWords() {
		var others []api.Set
		for _, other := range namesByWords() {
			others = append(others, must(t, other))
		}
		spoilSet(must(t, name))
		same(t, name+" written over")
		for i, row := range rows(setsByWords) {
			if !slices.Equal(others[i], spans(row[1])) {
				t.Errorf("%q, told ahead of that, shares memory with %q", row[0], name)
			}
		}
	}
}

// Sets that begin or end alike share nothing, also where the caller lets them grow.
func TestSpareRoomIsTheCallers(t *testing.T) { // R4
	for _, name := range namesByWords() {
		s := must(t, name)
		s = append(s, api.Range{Lo: -1, Hi: -2})
		same(t, name+" grown")
	}
	l := append(class.Names(), "more")
	same(t, "names grown")
	spoilNames(l)
	same(t, "grown names written over")
}

func TestWrongNamesLeaveNoTrace(t *testing.T) { // R5
	for i, name := range noNames() {
		class.Of(name)
		if i%97 == 0 {
			same(t, "behind "+name)
		}
	}
	if s, err := class.Of("more"); s != nil || err != api.ErrClassName {
		t.Errorf("%x, %d", s, err)
	}
	same(t, "at the end")
}

func TestSideBySide(t *testing.T) { // R4, R5
	var all sync.WaitGroup
	for range 8 {
		all.Go(func() {
			for range 20 {
				same(t, "side by side")
				for _, name := range class.Names() {
					s, _ := class.Of(name)
					spoilSet(s)
				}
				spoilNames(class.Names())
				if class.Lower(0x41) != 0x61 || class.Upper(0x61) != 0x41 {
					t.Error("side by side: the partners")
				}
			}
		})
	}
	all.Wait()
}
