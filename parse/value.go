package parse

import (
	"corrector/api"
	"corrector/arena"
	"corrector/flow"
)

// readValue reads a value at a token into the innermost level's cur, and the rest: what is left of the row in which it ends is wrong. That row is the one that is read then.
func (r *reader) readValue(at int) {
	in := r.innermost()
	collections := len(r.levels) - 1
	// The tree is of the value alone. It is copied for it: to copy all of a longest text's as often would take seconds.
	t, node, next, d := flow.Value(r.text, r.tokens, arena.New(len(r.tokens)), stream, at, r.end, r.depth-collections)
	if node != none {
		in.full = true
		r.graft(in.cur, t.Nodes[node:])
	}
	r.told = append(r.told, d...)
	for r.rows[r.row].To < next {
		r.row++
	}
	r.fault(in.cur, api.DStray, next, r.rows[r.row].To)
}
