package parse

import (
	"strconv"
	"strings"

	"respell/api"
	"respell/scan"
	"respell/utf"
)

// maxCopy is the greatest number that a copy can be written with.
const maxCopy = 999999999

// Print writes lines in one form; or tells that they can't be written.
func Print(l []api.Line) (string, api.Errno) {
	if err := check(l); err != api.OK {
		return "", err
	}
	var b strings.Builder
	for _, line := range l {
		b.WriteString(strings.Join(lineWords(line), " "))
		b.WriteByte('\n')
		// Lists that share their items may make far more text than they have room.
		if b.Len() > api.MaxSource {
			return "", api.ErrLong
		}
	}
	return b.String(), api.OK
}

// check catches the error that looking at the lines throws.
func check(l []api.Line) (err api.Errno) {
	defer func() {
		switch thrown := recover().(type) {
		case nil:
		case api.Errno:
			err = thrown
		default:
			panic(thrown)
		}
	}()
	for _, line := range l {
		checkLine(line)
	}
	return api.OK
}

// demand throws an error, unless it is so.
func demand(so bool, err api.Errno) {
	if !so {
		panic(err)
	}
}

func checkLine(l api.Line) {
	demand(lineStands(l), api.ErrParseWant)
	checkRow(l.Ante, inRule)
	checkRow(l.Key, inRule)
	checkRow(l.Post, inRule)
	checkRow(l.Result, inResult)
}

// lineStands tells whether a line has what its kind has, and nothing else; its items are not looked at.
func lineStands(l api.Line) bool {
	switch l.Kind {
	case api.LnThen:
		return l.Name == "" && len(l.Key) == 0 && isNoRule(l)
	case api.LnName:
		return isName(l.Name) && len(l.Key) == 1 && isNoRule(l)
	case api.LnRule:
		return l.Name == "" && 0 <= l.Cursor && l.Cursor <= len(l.Result)
	}
	return false
}

// isNoRule tells that a line has nothing of what rules alone have.
func isNoRule(l api.Line) bool {
	return !l.Begin && !l.End && len(l.Ante) == 0 && len(l.Post) == 0 && len(l.Result) == 0 && l.Cursor == 0
}

func checkRow(row []api.Item, may kinds) {
	demand(len(row) <= api.MaxRanges, api.ErrParseMany)
	for _, it := range row {
		checkItem(it, may)
	}
}

func checkItem(it api.Item, may kinds) {
	demand(may.has(it.Kind) && itemStands(it), api.ErrParseWant)
	switch it.Kind {
	case api.ItSet:
		checkRow(it.Parts, inSet)
	case api.ItPair:
		checkRow(it.Parts, inPair)
	case api.ItRange:
		demand(isRange(it.Lo, it.Hi), api.ErrParseRange)
	}
}

// itemStands tells whether an item has what its kind has, and nothing else; its parts are not looked at.
func itemStands(it api.Item) bool {
	rest, good := it, true
	switch it.Kind {
	case api.ItUnit:
		good = isUnit(it.Unit)
		rest.Unit = 0
	case api.ItName, api.ItClass:
		good = isName(it.Name)
		rest.Name = ""
	case api.ItSet:
		rest.Not, rest.Parts = false, nil
	case api.ItRange:
		good = isUnit(it.Lo) && isUnit(it.Hi)
		rest.Lo, rest.Hi = 0, 0
	case api.ItCopy:
		good = isCopy(it.Key)
		rest.Key = 0
	case api.ItPair:
		good = isCopy(it.Key) && len(it.Parts) == 1
		rest.Key, rest.Parts = 0, nil
	}
	return good && isBlank(rest)
}

// isBlank tells that no field of an item but its kind says anything.
func isBlank(it api.Item) bool {
	return it.Unit == 0 && it.Name == "" && len(it.Parts) == 0 && it.Lo == 0 && it.Hi == 0 && !it.Not && it.Key == 0
}

func isUnit(u int) bool {
	return utf.Width(u) > 0
}

func isCopy(n int) bool {
	return 1 <= n && n <= maxCopy
}

func isName(s string) bool {
	for i := range len(s) {
		if !isNameByte(s[i]) {
			return false
		}
	}
	return 1 <= len(s) && len(s) <= api.MaxName
}

func isNameByte(b byte) bool {
	return 'a' <= b && b <= 'z' || 'A' <= b && b <= 'Z' || '0' <= b && b <= '9' || b == '_'
}

// lineWords are what stands in a line with a blank between.
func lineWords(l api.Line) []string {
	switch l.Kind {
	case api.LnThen:
		return []string{"then", scan.Sign(signEnd)}
	case api.LnName:
		return []string{"$" + l.Name, scan.Sign(signIs), itemText(l.Key[0]), scan.Sign(signEnd)}
	}
	return append(append(sideWords(l), scan.Sign(signInto)), resultWords(l)...)
}

// sideWords are those of a rule ahead of its result.
func sideWords(l api.Line) []string {
	var w []string
	if l.Begin {
		w = append(w, scan.Sign(signNot))
	}
	w = append(w, itemTexts(l.Ante)...)
	if l.Begin || len(l.Ante) > 0 {
		w = append(w, scan.Sign(signAnte))
	}
	w = append(w, itemTexts(l.Key)...)
	if l.End || len(l.Post) > 0 {
		w = append(w, scan.Sign(signPost))
	}
	w = append(w, itemTexts(l.Post)...)
	if l.End {
		w = append(w, scan.Sign(signLast))
	}
	return w
}

// resultWords are those of a rule's result, and of its end.
func resultWords(l api.Line) []string {
	w := itemTexts(l.Result[:l.Cursor])
	if l.Cursor < len(l.Result) {
		w = append(w, scan.Sign(signCursor))
		w = append(w, itemTexts(l.Result[l.Cursor:])...)
	}
	return append(w, scan.Sign(signEnd))
}

func itemTexts(row []api.Item) []string {
	var w []string
	for _, it := range row {
		w = append(w, itemText(it))
	}
	return w
}

func itemText(it api.Item) string {
	switch it.Kind {
	case api.ItUnit:
		return unitText(it.Unit)
	case api.ItName:
		return "$" + it.Name
	case api.ItClass:
		return "[:" + it.Name + ":]"
	case api.ItAny:
		return scan.Sign(signAny)
	case api.ItSet:
		return setText(it)
	case api.ItRange:
		return unitText(it.Lo) + scan.Sign(signTo) + unitText(it.Hi)
	case api.ItPair:
		return copyText(it) + scan.Sign(signOf) + itemText(it.Parts[0])
	}
	return copyText(it)
}

func setText(it api.Item) string {
	s := scan.Sign(signSet)
	if it.Not {
		s += scan.Sign(signNot)
	}
	return s + strings.Join(itemTexts(it.Parts), " ") + scan.Sign(signSetDone)
}

func copyText(it api.Item) string {
	return "@" + strconv.Itoa(it.Key)
}

func unitText(u int) string {
	s, _ := scan.Write(u)
	return s
}
