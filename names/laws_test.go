package names_test

import (
	"fmt"
	"maps"
	"math/rand"
	"slices"
	"strings"
	"testing"

	"respell/api"
	"respell/names"
	"respell/parse"
)

// What follows of the chapter's promises: P6.3, P6.4.

// sets tells what the names that lines give stand for.
func sets(t *testing.T, l []api.Line) map[string]api.Set {
	t.Helper()
	known := map[string]api.Set{}
	for _, x := range l {
		if x.Kind == api.LnName {
			s, e := names.Set(x.Key[0], maps.Clone(known))
			if e != api.OK {
				t.Fatal(x, e)
			}
			known[x.Name] = s
		}
	}
	return known
}

// longer changes the lists of lines, item by item, at every depth; as makes of an item what it gives way to, and is told whether that stands in a set.
func longer(l []api.Line, as func(i api.Item, inSet bool) api.Item) []api.Line {
	var out []api.Line
	for _, x := range l {
		for _, r := range []*[]api.Item{&x.Ante, &x.Key, &x.Post, &x.Result} {
			*r = longerRow(*r, false, as)
		}
		out = append(out, x)
	}
	return out
}

func longerRow(l []api.Item, inSet bool, as func(api.Item, bool) api.Item) []api.Item {
	var out []api.Item
	for _, i := range l {
		i.Parts = longerRow(i.Parts, i.Kind == api.ItSet, as)
		out = append(out, as(i, inSet))
	}
	return out
}

// spelled is an item that has a set, range by range.
func spelled(s api.Set) api.Item {
	i := set()
	for _, r := range s {
		i.Parts = append(i.Parts, upTo(r.Lo, r.Hi))
	}
	return i
}

const shortForms = `$a = a ; $d = [:digit:] ; $s = [:stray:] ; $r = [k-p] ; $all = . ; $none = [] ; $not = [^$r] ; $more = [$a$d$r] ; $same = $r ;
$a $d > $REST ;
^ $r { $more $all $none } $not [^$a$d] $ > @1:$r | x @2:[$d$s$r] ;
then ; $two = [$more$same] ; $s $same > @1:$not ; then ; [$a$none$two] > @1:$two ;`

func TestANameGivesWay(t *testing.T) { // P6.3
	l := written(t, strings.ReplaceAll(shortForms, "$REST", "@2:$more"))
	want, _, e := names.Passes(l)
	if e != api.OK {
		t.Fatal(e)
	}
	known := sets(t, l)
	// In a row a set spelled out, in a set one range of it, if it has no more.
	spell := func(i api.Item, inSet bool) api.Item {
		switch s := known[i.Name]; {
		case i.Kind != api.ItName:
			return i
		case !inSet:
			return spelled(s)
		case len(s) == 1:
			return upTo(s[0].Lo, s[0].Hi)
		}
		return i
	}
	makes(t, longer(l, spell), want...)
	// What the definition has, where that may stand; and a name that was given the same set.
	makes(t, longer(l, func(i api.Item, inSet bool) api.Item {
		for _, x := range l {
			if i.Kind == api.ItName && x.Name == i.Name && (!inSet || x.Key[0].Kind != api.ItSet && x.Key[0].Kind != api.ItAny) {
				return x.Key[0]
			}
		}
		return i
	}), want...)
	makes(t, longer(l, func(i api.Item, _ bool) api.Item {
		if i.Kind == api.ItName && i.Name == "same" {
			i.Name = "r"
		}
		return i
	}), want...)
	// One of them alone, whichever it is.
	count := 0
	longer(l, func(i api.Item, inSet bool) api.Item { count++; return i })
	for n := range count {
		k := 0
		makes(t, longer(l, func(i api.Item, inSet bool) api.Item {
			if k++; k-1 == n {
				return spell(i, inSet)
			}
			return i
		}), want...)
	}
}

// without is lines without the definitions that nobody uses.
func without(l []api.Line) []api.Line {
	for {
		used := map[string]bool{}
		longer(l, func(i api.Item, _ bool) api.Item {
			if i.Kind == api.ItName {
				used[i.Name] = true
			}
			return i
		})
		fewer := slices.DeleteFunc(slices.Clone(l), func(x api.Line) bool { return x.Kind == api.LnName && !used[x.Name] })
		if len(fewer) == len(l) {
			return l
		}
		l = fewer
	}
}

func TestDefinitionsThatNobodyUses(t *testing.T) { // P6.3
	for _, x := range []struct {
		text string
		left int
	}{
		{"$a = a ;", 0}, {"$a = a ; $b = $a ; $c = [$b$a] ;", 0}, {"$a = a ; $b = b ; then ; $b > ; $c = [$b] ;", 3}, {"x > y ; $v = [^] ; then ; $w = $v ; x > z ;", 3}, {"$v = a ; $w = b ; > @1:$w ;", 2},
	} {
		l := written(t, x.text)
		want, _, e := names.Passes(l)
		if e != api.OK || len(without(l)) != x.left {
			t.Fatal(x.text, e, len(without(l)))
		}
		makes(t, without(l), want...)
	}
	m := maker{rand.New(rand.NewSource(63)), 0}
	for range 300 {
		l := m.lines()
		want, _, e := names.Passes(l)
		if e != api.OK {
			continue
		}
		makes(t, without(l), want...)
		known := sets(t, l)
		makes(t, without(longer(l, func(i api.Item, inSet bool) api.Item {
			if i.Kind == api.ItName && !inSet {
				return spelled(known[i.Name])
			}
			return i
		})), want...)
		// Nor do more of them.
		more := slices.Insert(slices.Clone(l), m.Intn(len(l)+1), define("nobody", m.junk(pick(m, 1, 4))))
		makes(t, more, want...)
	}
}

// someText is a rules' text that parse reads.
func someText(r *rand.Rand) string {
	words := func(n int, l ...string) string {
		var b strings.Builder
		for range r.Intn(n) {
			b.WriteString(l[r.Intn(len(l))] + " ")
		}
		return b.String()
	}
	item := func() string {
		parts := words(6, "a", "b-k", `\b{80}`, `\b{80}-\b{FF}`, `\x{D7FF}-\x{E000}`, "$v", "$w", "$m", "[:digit:]", "[:vowel:]")
		return []string{"a", ".", "$v", "$w", "$m", "[:alpha:]", "[" + parts + "]", "[^" + parts + "]"}[r.Intn(8)]
	}
	if r.Intn(30) == 0 {
		item = func() string { return []string{"[:none:]", "[a[:x:]]", "$none", "[^$q]"}[r.Intn(4)] }
	}
	row := func() string { return words(4, item(), item(), "x") }
	piece := func() string {
		return words(4, "y", "@1", "@999999999", "@2:$v", "@3:[^$m]", "@1:.", "@4:[:greek:]", "@1:$w")
	}
	var b strings.Builder
	var many strings.Builder
	for i := range []int{3, 505, 512}[r.Intn(3)] {
		fmt.Fprintf(&many, "\\x{%X}", 0x400+2*i)
	}
	b.WriteString("$v = [a-c x] ; $w = " + []string{"$v", ".", "[]", `\b{C3}`}[r.Intn(4)] + " ; $m = [" + many.String() + "] ; ")
	for range r.Intn(8) {
		switch r.Intn(8) {
		case 0:
			b.WriteString("then ; ")
		case 1:
			b.WriteString([]string{"$v", "$x", "$y", "$z"}[r.Intn(4)] + " = " + item() + " ; ")
		default:
			b.WriteString([]string{"", "^ "}[r.Intn(2)] + row() + "{ " + row() + "} " + row() + []string{"", "$ "}[r.Intn(2)] + "> " + piece() + []string{"", "| "}[r.Intn(2)] + piece() + "; ")
		}
	}
	return b.String()
}

func TestWhichErrorsReadLinesHave(t *testing.T) { // P6.4
	r := rand.New(rand.NewSource(64))
	codes := map[api.Errno]int{}
	for range 4000 {
		s := someText(r)
		l, f := parse.Parse(s)
		if f != (api.Fault{}) {
			t.Fatal(s, f)
		}
		_, _, e := names.Passes(l)
		codes[e]++
	}
	for _, e := range []api.Errno{api.OK, api.ErrNamesNone, api.ErrNamesTwice, api.ErrClassName, api.ErrSetMany} {
		if codes[e] < 10 {
			t.Errorf("%d only %d times", e, codes[e])
		}
		delete(codes, e)
	}
	if len(codes) > 0 {
		t.Errorf("errors beside these: %v", codes)
	}
}

func TestTheEdgesOfReadLines(t *testing.T) { // P6.4
	full := strings.Repeat("a", 512)
	for _, s := range []string{"", ";"[:0], "> ;", "a > @1 @999999999 ;", "a > @1:. @1:[] @1:[:any:] ;", "[a-a] > ;", `[\b{80}-\b{FF}\x{0}-\x{10FFFF}] > ;`, full + "{" + full + "}" + full + ">" + full + "|;", "[" + full + "] > | ;", `\x{D7FF}\x{E000} > \b{80} ;`} {
		if _, line, e := names.Passes(written(t, s)); line != 0 || e != api.OK {
			t.Errorf("%.100q: %d, %d", s, line, e)
		}
	}
}
