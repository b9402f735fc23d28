package parse

import (
	"corrector/api"
)

// Nodes are put into the tree here, not by arena.Add, which copies it for each: of a longest text that would take seconds.

// add puts a node behind all that are in another one, and answers its number.
func (r *reader) add(up, kind, from, to int) (at int) {
	at = r.hold(up, to)
	r.tree.Nodes = append(r.tree.Nodes, api.Node{Kind: kind, From: from, To: to, Up: up})
	return at
}

// graft puts a value likewise: its nodes, from 1 on in a tree of their own.
func (r *reader) graft(up int, nodes []api.Node) {
	more := r.hold(up, nodes[0].To) - 1
	for i := range nodes {
		nodes[i].Up += more
		for j := range nodes[i].Kids {
			nodes[i].Kids[j] += more
		}
	}
	nodes[0].Up = up
	r.tree.Nodes = append(r.tree.Nodes, nodes...)
}

// hold lets a node have the next one behind all that are in it, and answers that one's number.
func (r *reader) hold(up, to int) (at int) {
	at = len(r.tree.Nodes)
	r.tree.Nodes[up].Kids = append(r.tree.Nodes[up].Kids, at)
	r.reach(up, to)
	return at
}

// reach lets a node, and all that it is in, reach as far as that, if they did not. (The stream does from the beginning.)
func (r *reader) reach(at, to int) {
	for ; at != stream; at = r.tree.Nodes[at].Up {
		node := &r.tree.Nodes[at]
		node.To = max(node.To, to)
	}
}

// fault puts an error over those tokens that count, from the first to the last one, into a node; if any do.
func (r *reader) fault(up, code, from, to int) {
	if from = r.counted(from, to); from < to {
		to = r.behindCounted(to)
		r.tell(code, r.tokens[from].From, r.tokens[to-1].To)
		r.add(up, api.NError, from, to)
	}
}
