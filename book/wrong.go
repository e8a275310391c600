package book

import (
	"errors"
	"strconv"

	"respell/api"
)

// reason is an error's number, as an error.
type reason api.Errno

func (r reason) Error() string { return "error " + strconv.Itoa(int(r)) }

// part is that part of a text, by its number from 0 on, of which something is wrong.
type part struct {
	number int
	error
}

func (p part) Unwrap() error { return p.error }

// Which parts they are.
type (
	ofLine struct{ part }
	ofPass struct{ part }
)

// locate is the fault of what is wrong with a text of these lines: at the text's end, where it is of none of them.
func locate(wrong error, lines []api.Line, end int) api.Fault {
	var why reason
	errors.As(wrong, &why)
	return api.Fault{At: place(wrong, lines, end), Code: api.Errno(why)}
}

func place(wrong error, lines []api.Line, end int) int {
	var line ofLine
	if errors.As(wrong, &line) && line.number < len(lines) {
		return lines[line.number].At
	}
	var pass ofPass
	if errors.As(wrong, &pass) {
		return firstRule(lines, pass.number, end)
	}
	return end
}
