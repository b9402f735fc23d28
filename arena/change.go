package arena

import (
	"corrector/api"
)

// growth is a change: a node, and all that it is in, reach as far as that.
type growth struct{ at, to int }

// addition is a growth for a new node's sake, which is put into the one that grows and ends where that must reach to.
type addition struct {
	growth
	kind, from int
}

// fits tells whether a new node may stand there.
func fits(t Tree, a addition) bool {
	if !has(t, a.at) || a.kind < api.NStream || a.kind > api.NError {
		return false
	}
	return free(t, a.at) <= a.from && a.from <= a.to && a.to <= t.Nodes[0].To
}

// free is the first token of a node, or behind it, at which a new one may begin.
func free(t Tree, at int) int {
	node := t.Nodes[at]
	if n := len(node.Kids); n > 0 && has(t, node.Kids[n-1]) {
		return t.Nodes[node.Kids[n-1]].To
	}
	return node.From
}

// changed is a tree like t with changes made, one behind the other; they are growths or additions.
func changed(t Tree, changes ...any) Tree {
	n := copied(t, len(changes))
	for _, change := range changes {
		if a, ok := change.(addition); ok {
			n = put(n, a)
			change = a.growth
		}
		// It can't fail: Add and Grow hand in nothing else.
		reach(n, change.(growth))
	}
	return n
}

// copied is a tree like t, all of it new memory, with room for some nodes more.
func copied(t Tree, more int) Tree {
	n := Tree{Nodes: make([]api.Node, 0, len(t.Nodes)+more)}
	// One list that all kids are cut from: a list of its own for each node would be far slower to make.
	all := make([]int, 0, len(t.Nodes))
	for _, node := range t.Nodes {
		from := len(all)
		all = append(all, node.Kids...)
		node.Kids = nil
		if from < len(all) {
			// It ends where its room does: whoever adds to it can't write into the next one's.
			node.Kids = all[from:len(all):len(all)]
		}
		n.Nodes = append(n.Nodes, node)
	}
	return n
}

// put is the tree with a new node, behind all and behind those that are in its own one.
func put(n Tree, a addition) Tree {
	up := &n.Nodes[a.at]
	up.Kids = append(up.Kids, len(n.Nodes))
	n.Nodes = append(n.Nodes, api.Node{Kind: a.kind, From: a.from, To: a.to, Up: a.at})
	return n
}

// reach lets a node, and all that it is in, reach as far as that, if they did not.
func reach(n Tree, g growth) {
	for at := g.at; at > none; {
		node := &n.Nodes[at]
		node.To = max(node.To, g.to)
		if node.Up >= at {
			// No tree of these calls has that; whatever tree comes, all ends.
			return
		}
		at = node.Up
	}
}
