package arena

import (
	"slices"

	"corrector/api"
)

// begins tells whether the first node is a stream of so many tokens.
func begins(t Tree, tokens int) bool {
	if len(t.Nodes) == 0 {
		return false
	}
	first := t.Nodes[0]
	return first.Kind == api.NStream && first.From == 0 && first.To == tokens && first.Up == none
}

// held tells of a tree that has nodes whether each one but the first is a kid just once, of the one that it says it is in, which stands ahead of it; and whether there are no other kids.
func held(t Tree) bool {
	seen := make([]bool, len(t.Nodes))
	for at, node := range t.Nodes {
		for _, kid := range node.Kids {
			// The first one stands behind none: as a kid it is refused by that.
			if kid <= at || !has(t, kid) || t.Nodes[kid].Up != at || seen[kid] {
				return false
			}
			seen[kid] = true
		}
	}
	return !slices.Contains(seen[1:], false)
}

// ordered tells whether each node ends nowhere ahead of its beginning, and those in it lie in it, one behind the other; all kids are nodes.
func ordered(t Tree) bool {
	for _, node := range t.Nodes {
		last := node.From
		for _, kid := range node.Kids {
			if t.Nodes[kid].From < last {
				return false
			}
			last = t.Nodes[kid].To
		}
		// As no kid ends ahead of its own beginning, the last one's end is the furthest.
		if last > node.To {
			return false
		}
	}
	return true
}
