package class_test

import (
	"strconv"
	"strings"

	"respell/api"
)

// The chapter's two tables, as it has them, and read anew unit by unit.

const setsByWords = `
alnum | 30-39, 41-5A, 61-7A
alpha | 41-5A, 61-7A
any | 0-D7FF, E000-10FFFF, 110080-1100FF
ascii | 0-7F
blank | 9, 20
cntrl | 0-1F, 7F
cyrillic | 400-45F
digit | 30-39
graph | 21-7E
greek | 391-3A1, 3A3-3A9, 3B1-3C9
hangul | AC00-D7A3
kana | 3041-3096, 30A1-30FA
latin | 41-5A, 61-7A, C0-D6, D8-F6, F8-FF
lower | 61-7A, DF-F6, F8-FF, 3B1-3C9, 430-45F
mark | 300-36F
other | 80-D7FF, E000-10FFFF, 110080-1100FF
print | 20-7E
punct | 21-2F, 3A-40, 5B-60, 7B-7E
rune | 0-D7FF, E000-10FFFF
space | 9-D, 20, 85, A0
stray | 110080-1100FF
upper | 41-5A, C0-D6, D8-DE, 391-3A1, 3A3-3A9, 400-42F
vowel | 41, 45, 49, 4F, 55, 61, 65, 69, 6F, 75
xdigit | 30-39, 41-46, 61-66
`

const partnersByWords = `
41-5A | 61-7A | 20
C0-D6, D8-DE | E0-F6, F8-FE | 20
391-3A1, 3A3-3A9 | 3B1-3C1, 3C3-3C9 | 20
400-40F | 450-45F | 50
410-42F | 430-44F | 20
`

const beyond = 0x110200 // above all units

// rows is the cells of a table, line by line.
func rows(table string) [][]string {
	var out [][]string
	for _, line := range strings.Split(strings.TrimSpace(table), "\n") {
		out = append(out, strings.Split(line, " | "))
	}
	return out
}

func number(word string) int {
	n, err := strconv.ParseInt(word, 16, 64)
	if err != nil {
		panic(err)
	}
	return int(n)
}

// spans is the ranges of a cell, as they stand there.
func spans(cell string) api.Set {
	var s api.Set
	for _, word := range strings.Split(cell, ", ") {
		lo, hi, is := strings.Cut(word, "-")
		if !is {
			hi = lo
		}
		s = append(s, api.Range{Lo: number(lo), Hi: number(hi)})
	}
	return s
}

// letters is the units of a cell, one by one.
func letters(cell string) []int {
	var l []int
	for _, r := range spans(cell) {
		for u := r.Lo; u <= r.Hi; u++ {
			l = append(l, u)
		}
	}
	return l
}

// pair is a great letter and its small one.
type pair struct{ great, small int }

// pairs is all partners, the n-th great letter of a row beside its n-th small one.
func pairs() []pair {
	var l []pair
	for _, row := range rows(partnersByWords) {
		great, small := letters(row[0]), letters(row[1])
		for i := range great {
			l = append(l, pair{great[i], small[i]})
		}
	}
	return l
}
