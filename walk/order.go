package walk

import (
	"corrector/arena"
)

// first is the number of the node that all others are in.
const first = 0

// each tells of the first node, then, of each one in its kids, in order, of all that it has so; of none twice.
func each(t arena.Tree, tell func(at int)) {
	told := make([]bool, len(t.Nodes))
	// What is left to tell, the next thing on top: a node's number, or the rest of a list of kids.
	// It waits here and not in calls within calls, for which a tree may be too deep.
	left := []any{first}
	for len(left) > 0 {
		next := left[len(left)-1]
		left = left[:len(left)-1]
		if at, ok := next.(int); ok {
			if has(t, at) && !told[at] {
				told[at] = true
				tell(at)
				left = append(left, t.Nodes[at].Kids)
			}
			continue
		}
		// It can't fail: nothing but numbers and lists of kids is put there.
		if kids := next.([]int); len(kids) > 0 {
			left = append(left, kids[1:], kids[0])
		}
	}
}

// has tells whether there is a node of that number.
func has(t arena.Tree, at int) bool {
	return 0 <= at && at < len(t.Nodes)
}
