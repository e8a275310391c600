package parts

import (
	"sync"

	"respell/machine"
	"respell/utf"
)

// turns is how many parts come to a worker. With one for each, all others would wait for the one whose part takes the longest.
const turns = 4

// part is a piece of a text that runs by itself.
type part struct {
	number int
	text   string
	again  int // how many bytes at its beginning the part ahead ends with, too
}

// cut parts a text at safe places: not at all of them, as to begin a part takes longer than many steps, but where one has its share of the text.
func cut(s string, places []int, workers int) []part {
	share := len(s) / (turns * workers)
	var l []part
	from, again := 0, 0
	for _, at := range places {
		if at-from < share {
			continue
		}
		l = append(l, part{len(l), s[from-again : at], again})
		// The quiet unit stands in both parts, so that behind it no beginning is seen, and ahead of it no end.
		_, again = utf.Last(s[:at])
		from = at
	}
	return append(l, part{len(l), s[from-again:], again})
}

// run is what a part adds to the result.
func (x part) run(m *machine.Machine) string {
	// It is no longer than the text, so that there is nothing for Run to refuse.
	text, _ := m.Run(x.text)
	return text[x.again:]
}

// sideBySide is what parts add to the result, each of them, whichever worker runs it.
func sideBySide(m *machine.Machine, l []part, workers int) []string {
	queue := make(chan part, len(l))
	for _, x := range l {
		queue <- x
	}
	close(queue)
	results := make([]string, len(l))
	var wait sync.WaitGroup
	for range workers {
		wait.Add(1)
		go func() {
			defer wait.Done()
			for x := range queue {
				results[x.number] = x.run(m)
			}
		}()
	}
	wait.Wait()
	return results
}
