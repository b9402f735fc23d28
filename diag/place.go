package diag

import (
	"strconv"

	"corrector/lines"
)

// place is one of a text as it is told: both from 1 on, or both 0 where there is none.
type place struct{ line, col int }

// is tells whether there is such a place.
func (p place) is() bool { return p.line > 0 }

func (p place) text() string {
	return strconv.Itoa(p.line) + ":" + strconv.Itoa(p.col)
}

// finder finds places of a text. To find one is to go through all that is ahead of it: what was found is kept.
type finder struct {
	text  []byte
	found map[int]place
}

func (f finder) find(at int) place {
	p, ok := f.found[at]
	if !ok {
		p.line, p.col = lines.Place(f.text, at)
		f.found[at] = p
	}
	return p
}
