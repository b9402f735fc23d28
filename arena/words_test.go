package arena

import (
	"fmt"
	"slices"
	"testing"

	"corrector/api"
)

// die throws, always the same.
type die uint32

func (d *die) of(n int) int {
	*d = *d*1664525 + 1013904223
	return int(*d>>8) % n
}

// story is the chapter's words as they stand there, on what has happened: which nodes came, and who was to reach how far.
type story struct {
	came    []call // the first one is the stream
	reached [][2]int
}

func begun(tokens int) story {
	return story{came: []call{{-1, api.NStream, 0, tokens}}, reached: [][2]int{{0, tokens}}}
}

// within tells whether a node is another one, or in it, however deep.
func (s story) within(at, other int) bool {
	for at != other && at != -1 {
		at = s.came[at].up
	}
	return at == other
}

// to is how far a node reaches: as far as it, or what is in it, ever was to.
func (s story) to(at int) int {
	most := s.came[at].to
	for _, r := range s.reached {
		if s.within(r[0], at) {
			most = max(most, r[1])
		}
	}
	return most
}

// kids are those that were put into a node.
func (s story) kids(at int) []int {
	var out []int
	for i, c := range s.came {
		if c.up == at {
			out = append(out, i)
		}
	}
	return out
}

func (s story) tree() Tree {
	var t Tree
	for i, c := range s.came {
		t.Nodes = append(t.Nodes, api.Node{Kind: c.kind, From: c.from, To: s.to(i), Up: c.up, Kids: s.kids(i)})
	}
	return t
}

// refuses is P1001's list, in its order.
func (s story) refuses(c call) bool {
	if c.up < 0 || c.up >= len(s.came) {
		return true
	}
	if c.kind == grow {
		return c.to > s.to(0)
	}
	kids := s.kids(c.up)
	return c.kind < 1 || c.kind > 11 || c.from > c.to || c.to > s.to(0) || c.from < s.came[c.up].from ||
		len(kids) > 0 && c.from < s.to(kids[len(kids)-1])
}

// and is the story with a call that is not refused.
func (s story) and(c call) story {
	s = story{slices.Clone(s.came), slices.Clone(s.reached)}
	at := c.up
	if c.kind != grow {
		at = len(s.came)
		s.came = append(s.came, c)
	}
	s.reached = append(s.reached, [2]int{at, c.to})
	return s
}

// last tells whether nothing stands behind a node in all that it is in.
func (s story) last(at int) bool {
	for ; at > 0; at = s.came[at].up {
		kids := s.kids(s.came[at].up)
		if kids[len(kids)-1] != at {
			return false
		}
	}
	return at == 0
}

// wantedCheck is P1002's Check by its words.
func wantedCheck(t Tree, tokens int) bool {
	if len(t.Nodes) == 0 || t.Nodes[0].Kind != api.NStream || t.Nodes[0].From != 0 || t.Nodes[0].To != tokens || t.Nodes[0].Up != -1 {
		return false
	}
	for i, n := range t.Nodes {
		if n.From > n.To || i > 0 && (n.Up < 0 || n.Up >= i || count(t.Nodes[n.Up].Kids, i) != 1) {
			return false
		}
		for j, other := range t.Nodes {
			if count(other.Kids, i) > 0 && (i == 0 || j != n.Up) {
				return false
			}
		}
	}
	for _, n := range t.Nodes {
		if !wantedKids(t, n) {
			return false
		}
	}
	return true
}

func count(l []int, one int) int {
	out := 0
	for _, x := range l {
		if x == one {
			out++
		}
	}
	return out
}

// wantedKids tells whether a node's kids are nodes, lie in it, in order, and none begins ahead of the end of one that stands ahead.
func wantedKids(t Tree, n api.Node) bool {
	for i, kid := range n.Kids {
		if kid < 0 || kid >= len(t.Nodes) || t.Nodes[kid].From < n.From || t.Nodes[kid].To > n.To {
			return false
		}
		for _, ahead := range n.Kids[:i] {
			if t.Nodes[kid].From < t.Nodes[ahead].To || t.Nodes[kid].From < t.Nodes[ahead].From {
				return false
			}
		}
	}
	return true
}

// checkStory makes a call, holds it against the words, and answers what they lead to, and whether it was taken.
func checkStory(t *testing.T, tree Tree, s story, c call) (Tree, story, bool) {
	got, at := do(tree, c)
	taken := !s.refuses(c)
	number := -1
	if taken {
		number = len(s.came)
		s = s.and(c)
	}
	if c.kind == grow {
		number = len(s.came)
	}
	want := s.tree()
	if shown(got) != shown(want) || at != number || !Same(got, want) {
		t.Fatalf("P1001: %v of %s: %d, %s, not %d, %s", c, shown(tree), at, shown(got), number, shown(want))
	}
	return got, s, taken
}

// everyCall makes every call of small numbers of a tree, and goes on with those that are taken.
func everyCall(t *testing.T, tree Tree, s story, sound bool, more int) {
	tokens := s.came[0].to
	if Check(tree, tokens) != wantedCheck(tree, tokens) || sound && !Check(tree, tokens) || Check(tree, tokens+1) {
		t.Fatalf("P1003: %s", shown(tree))
	}
	if more == 0 {
		return
	}
	for up := -1; up <= len(s.came); up++ {
		for to := -1; to <= tokens+1; to++ {
			try := func(c call) {
				if n, after, taken := checkStory(t, tree, s, c); taken {
					everyCall(t, n, after, sound && s.last(c.up), more-1)
				}
			}
			try(call{up, grow, 0, to})
			for from := -1; from <= tokens+1; from++ {
				try(call{up, api.NMap, from, to})
			}
		}
	}
}

func TestEveryFewCalls(t *testing.T) {
	for _, x := range [][2]int{{0, 5}, {1, 4}, {2, 3}, {3, 3}, {6, 2}} {
		everyCall(t, New(x[0]), begun(x[0]), true, x[1])
	}
}

// wildCall is any call, most of them such that are taken.
func wildCall(d *die, s story) call {
	tokens := s.came[0].to
	c := call{d.of(len(s.came)), 1 + d.of(11), d.of(tokens+3) - 1, d.of(tokens+3) - 1}
	if kids := s.kids(c.up); d.of(4) > 0 {
		c.from = s.came[c.up].from
		if len(kids) > 0 {
			c.from = s.to(kids[len(kids)-1])
		}
		c.from += d.of(2)
		c.to = c.from + d.of(3)
	}
	switch d.of(20) {
	case 0:
		c.up = []int{-1, len(s.came)}[d.of(2)]
	case 1:
		c.kind = []int{-1, 0, 12}[d.of(3)]
	case 2, 3, 4, 5:
		c.kind = grow
	}
	return c
}

func TestWildCalls(t *testing.T) {
	d := die(1001)
	calls, takenCalls, grown := 0, 0, 0
	for range 3000 {
		tokens := d.of(12)
		tree, s := New(tokens), begun(tokens)
		for range d.of(20) {
			c := wildCall(&d, s)
			taken := false
			tree, s, taken = checkStory(t, tree, s, c)
			calls++
			if taken && c.kind == grow {
				grown++
			} else if taken {
				takenCalls++
			}
			if Check(tree, tokens) != wantedCheck(tree, tokens) {
				t.Fatalf("P1002: %s", shown(tree))
			}
		}
	}
	if takenCalls < calls/5 || grown < calls/20 {
		t.Errorf("only %d Adds and %d Grows of %d calls were taken", takenCalls, grown, calls)
	}
}

// P1003: nodes behind which nothing stands are added into, and grow; refused calls may stand between.
func TestTreesLieAsTheyMust(t *testing.T) {
	d := die(1003)
	nodes := 0
	for range 3000 {
		tokens := d.of(40)
		tree, s := New(tokens), begun(tokens)
		for range 25 {
			c := wildCall(&d, s)
			if !s.refuses(c) && !s.last(c.up) {
				// the last one that it has, however deep
				for c.up = 0; len(s.kids(c.up)) > 0 && d.of(4) > 0; {
					kids := s.kids(c.up)
					c.up = kids[len(kids)-1]
				}
			}
			tree, s, _ = checkStory(t, tree, s, c)
			if !Check(tree, tokens) {
				t.Fatalf("P1003: %v: %s", c, shown(tree))
			}
		}
		nodes += len(tree.Nodes)
	}
	if nodes < 20000 {
		t.Errorf("only %d nodes", nodes)
	}
}

func checkCheck(t *testing.T, tree Tree, tokens int) {
	t.Helper()
	if got := Check(tree, tokens); got != wantedCheck(tree, tokens) {
		t.Fatalf("P1002: Check of %s, %d: %v", shown(tree), tokens, got)
	}
}

// everyList calls do with each list of up to some count of numbers.
func everyList(numbers []int, count int, do func(l []int)) {
	lists := [][]int{nil}
	for range count + 1 {
		var longer [][]int
		for _, l := range lists {
			do(l)
			for _, n := range numbers {
				longer = append(longer, append(slices.Clone(l), n))
			}
		}
		lists = longer
	}
}

// Of two and three nodes every Up, and all kids of few.
func TestCheckOfEveryWayToHoldNodes(t *testing.T) {
	for count := 1; count <= 3; count++ {
		var numbers []int
		for n := -1; n <= count; n++ {
			numbers = append(numbers, n)
		}
		var lists [][]int
		everyList(numbers, 2, func(l []int) { lists = append(lists, l) })
		tree := Tree{make([]api.Node, count)}
		allowed := 0
		var fill func(at int)
		fill = func(at int) {
			if at == count {
				checkCheck(t, tree, 5)
				if Check(tree, 5) {
					allowed++
				}
				return
			}
			for _, kids := range lists {
				for _, up := range numbers {
					// All at one place, so that it doesn't hang on places.
					tree.Nodes[at] = api.Node{Kind: api.NDoc, From: 2, To: 2, Up: up, Kids: kids}
					if at == 0 {
						tree.Nodes[0].Kind, tree.Nodes[0].From, tree.Nodes[0].To = api.NStream, 0, 5
					}
					fill(at + 1)
				}
			}
		}
		fill(0)
		// The third one is in the second one, or in the first one, ahead of the second one or behind.
		if want := []int{0, 1, 1, 3}[count]; allowed != want {
			t.Errorf("P1002: %d trees of %d nodes, not %d", allowed, count, want)
		}
	}
}

// Of up to four nodes, held in all ways, every place.
func TestCheckOfEveryPlace(t *testing.T) {
	for _, kids := range [][][]int{{{}}, {{1}, {}}, {{1, 2}, {}, {}}, {{2, 1}, {}, {}}, {{1}, {2}, {}}, {{1, 2, 3}, {}, {}, {}}, {{1}, {2, 3}, {}, {}}, {{1, 3}, {2}, {}, {}}, {{1}, {2}, {3}, {}}, {{3, 1}, {2}, {}, {}}} {
		tree := Tree{make([]api.Node, len(kids))}
		tree.Nodes[0] = api.Node{Kind: api.NStream, Up: -1}
		for at, l := range kids {
			tree.Nodes[at].Kids = l
			for _, kid := range l {
				tree.Nodes[kid].Up = at
			}
		}
		var fill func(at int)
		fill = func(at int) {
			if at == len(kids) {
				for tokens := -1; tokens <= 4; tokens++ {
					checkCheck(t, tree, tokens)
				}
				return
			}
			for from := -1; from <= 3; from++ {
				for to := -1; to <= 3; to++ {
					tree.Nodes[at].From, tree.Nodes[at].To = from, to
					if at == 0 || from >= 0 && to >= 0 {
						fill(at + 1)
					}
				}
			}
		}
		fill(0)
	}
}

// Trees that calls lead to, with a thing or two changed.
func TestCheckOfTreesWithFaults(t *testing.T) {
	d := die(1002)
	allowed, refused := 0, 0
	for range 60000 {
		tokens := 1 + d.of(12)
		tree := New(tokens)
		up := 0
		for range d.of(8) {
			from := tree.Nodes[up].To * d.of(2)
			if n, at := Add(tree, up, 2+d.of(10), max(from, free(tree, up)), d.of(tokens+1)); at > 0 {
				tree, up = n, []int{0, at, at}[d.of(3)]
			} else {
				up = 0
			}
		}
		for range d.of(3) {
			fault(&d, tree)
		}
		checkCheck(t, tree, tokens)
		if Check(tree, tokens) {
			allowed++
		} else {
			refused++
		}
	}
	if allowed < 10000 || refused < 10000 {
		t.Errorf("only %d allowed, %d refused", allowed, refused)
	}
}

// fault changes a thing.
func fault(d *die, t Tree) {
	n := &t.Nodes[d.of(len(t.Nodes))]
	switch kid := d.of(len(t.Nodes)+2) - 1; d.of(8) {
	case 0:
		n.From += d.of(3) - 1
	case 1:
		n.To += d.of(3) - 1
	case 2:
		n.Up = kid
	case 3:
		n.Kids = append(n.Kids, kid)
	case 4:
		n.Kids = n.Kids[:max(len(n.Kids)-1, 0)]
	case 5:
		n.Kids = slices.Clone(n.Kids)
		slices.Reverse(n.Kids)
	case 6:
		n.Kind, n.Key = d.of(13), d.of(2) == 0
	case 7:
		n.From, n.To = n.To, n.From
	}
}

// P1002: whether two are the same is whether all that they have is, as it is shown.
func TestSameOfWildTrees(t *testing.T) {
	d := die(10)
	same := 0
	for range 40000 {
		a := led(6, call{0, api.NDoc, 0, 3}, call{1, api.NMap, 1, 2}, call{0, api.NDoc, 3, 5})
		b := owned(a)
		for range d.of(3) {
			fault(&d, a)
		}
		for range d.of(3) {
			fault(&d, b)
		}
		want := fmt.Sprint(a.Nodes) == fmt.Sprint(b.Nodes)
		if Same(a, b) != want || Same(b, a) != want {
			t.Fatalf("P1002: Same of %s and %s: %v", shown(a), shown(b), !want)
		}
		if want {
			same++
		}
	}
	if same < 4000 {
		t.Errorf("only %d were the same", same)
	}
}
