package parse

import (
	"cmp"
	"slices"

	"corrector/api"
	"corrector/quote"
	"corrector/runes"
)

// tell puts a diagnostic over bytes behind what is told.
func (r *reader) tell(code, from, to int) {
	r.told = append(r.told, api.Diag{Code: code, From: from, To: to})
}

// tellBytes tells of each byte that is no text.
func (r *reader) tellBytes() {
	for _, at := range runes.Bad(r.text) {
		r.tell(api.DBad, at, at+1)
	}
}

// tellTabs tells of tabs ahead of what counts. A TBlank there begins with one: all spaces ahead are of a TIndent.
func (r *reader) tellTabs() {
	for _, row := range r.rows {
		if row.Kind != api.RBody {
			continue
		}
		for _, token := range r.tokens[row.From:r.counted(row.From, row.To)] {
			if token.Kind == api.TBlank {
				r.tell(api.DTab, token.From, token.To)
			}
		}
	}
}

// tellQuotes tells of quoted texts without an end, and of escapes that are none.
func (r *reader) tellQuotes() {
	for _, token := range r.tokens {
		if token.Kind != api.TSingle && token.Kind != api.TDouble {
			continue
		}
		_, bad, ended := quote.Text(token.Kind, string(r.text[token.From:token.To]))
		if !ended {
			r.tell(api.DQuote, token.From, token.To)
		}
		for _, at := range bad {
			r.tell(api.DEscape, token.From+at, token.From+at+1)
		}
	}
}

// sorted are diagnostics by their places, then by their codes. None stands there twice: each code is told of a token, a byte or an error once.
func sorted(l []api.Diag) []api.Diag {
	slices.SortFunc(l, func(a, b api.Diag) int {
		return cmp.Or(cmp.Compare(a.From, b.From), cmp.Compare(a.To, b.To), cmp.Compare(a.Code, b.Code))
	})
	return l
}
