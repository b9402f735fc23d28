package parse

import (
	"corrector/api"
	"corrector/rows"
)

// level is a document or a collection that is open. A document stands ahead of all columns, and is its own cur.
type level struct {
	kind, node, col int
	cur             int  // what a value is put into: the last NItem or NPair
	full            bool // whether that has a value
}

// free is the node into which what is wrong is put.
func (v *level) free() int {
	if v.full {
		return v.node
	}
	return v.cur
}

// takes tells whether, if v is the innermost level, a value that begins a row at a column is read into it. (Levels further out are full: what is open in them is their value.)
func (v *level) takes(col int) bool {
	return !v.full && v.col < col
}

func (r *reader) innermost() *level {
	return &r.levels[len(r.levels)-1]
}

// openDocument opens one at a token, if none is open.
func (r *reader) openDocument(at int) {
	if len(r.levels) == 0 {
		doc := r.add(stream, api.NDoc, at, at+1)
		r.levels = []level{{kind: api.NDoc, node: doc, col: none, cur: doc}}
	}
}

// place makes the cur that an entry asks for; or it answers which error that is.
func (r *reader) place(entry rows.Entry) (code int) {
	kind := collectionOf(entry)
	at := len(r.levels) - 1
out:
	here := r.levels[at]
	switch beneath := here.col == entry.Col; {
	case beneath && here.kind == kind:
		r.levels = r.levels[:at+1]
		r.enter(entry)
		return none
	case here.col > entry.Col, beneath && r.levels[at-1].col == entry.Col:
		// Two stand at one column only where an NSeq is in an NMap: the key is one of that.
		at--
		goto out
	case beneath && (here.full || here.kind == api.NSeq):
		return api.DMixed
	case here.full && here.kind == api.NDoc:
		return api.DSecond
	case here.full:
		return api.DIndent
	case len(r.levels) > r.depth:
		// The document is no collection: the levels are as many as collections would be with the new one.
		return api.DDeep
	}
	r.openCollection(kind, entry)
	r.enter(entry)
	return none
}

// collectionOf is the kind of the collection that an entry wants.
func collectionOf(entry rows.Entry) (kind int) {
	if entry.Dash {
		return api.NSeq
	}
	return api.NMap
}

// openCollection opens one of a kind, at an entry, as the value of the innermost level.
func (r *reader) openCollection(kind int, entry rows.Entry) {
	up := r.innermost()
	up.full = true
	node := r.add(up.cur, kind, entry.From, entry.To)
	r.levels = append(r.levels, level{kind: kind, node: node, col: entry.Col})
}

// enter makes an entry the cur of the innermost level, a collection of its kind.
func (r *reader) enter(entry rows.Entry) {
	in := r.innermost()
	in.full = false
	if entry.Dash {
		in.cur = r.add(in.node, api.NItem, entry.From, entry.To)
		return
	}
	in.cur = r.add(in.node, api.NPair, entry.From, entry.To)
	if colon := entry.To - 1; entry.From < colon {
		r.tree.Nodes[in.cur].Key = true
		r.add(in.cur, r.keyKind(entry.From, colon), entry.From, r.behindCounted(colon))
	}
}

// keyKind is the kind of the node over the tokens of a key.
func (r *reader) keyKind(from, to int) (kind int) {
	for _, token := range r.tokens[from:to] {
		if token.Kind == api.TAlias {
			return api.NAlias
		}
	}
	return api.NScalar
}
