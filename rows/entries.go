package rows

import (
	"corrector/api"
)

// Entry is a dash, or a key with its colon: its column, its tokens.
type Entry struct {
	Dash          bool
	Col, From, To int
}

// Entries are those with which a row begins, and where its rest does.
func Entries(b []byte, l []api.Token, r api.Row) (e []Entry, rest int) {
	if r.Kind != api.RBody || !lies(r, len(l)) {
		return nil, r.From
	}
	row := l[r.From:r.To]
	at := first(row)
	rest = r.From + at
	enter := func(dash bool, to int) {
		rest = r.From + to
		e = append(e, Entry{Dash: dash, Col: column(row, at), From: r.From + at, To: rest})
		at = pastBlanks(row, to)
	}
	for at < len(row) && row[at].Kind == api.TDash {
		enter(true, at+1)
	}
	if to := behindKey(row, at); to != none {
		enter(false, to)
	}
	return e, rest
}

// lies tells whether a row lies within so many tokens.
func lies(r api.Row, count int) bool {
	return 0 <= r.From && r.From <= r.To && r.To <= count
}

// pastBlanks is the first place from one on at which no TBlank stands.
func pastBlanks(row []api.Token, at int) int {
	for at < len(row) && row[at].Kind == api.TBlank {
		at++
	}
	return at
}

// behindKey is the place behind the key that begins at one, or none, if there is no key.
func behindKey(row []api.Token, at int) int {
part:
	at = pastBlanks(row, at)
	if at == len(row) {
		return none
	}
	switch row[at].Kind {
	case api.TAnchor, api.TTag:
		at++
		goto part
	case api.TPlain, api.TSingle, api.TDouble, api.TAlias:
		at = pastBlanks(row, at+1)
	}
	if at < len(row) && row[at].Kind == api.TColon {
		return at + 1
	}
	return none
}
