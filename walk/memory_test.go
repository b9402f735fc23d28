package walk

import (
	"fmt"
	"math"
	"slices"
	"testing"
	"time"

	"corrector/api"
	"corrector/arena"
	"corrector/parse"
)

// all are the answers of all five, of each byte and each node, and of some that there are not.
func all(l []api.Token, t arena.Tree) string {
	out := fmt.Sprint(Order(t), Errors(t))
	for at := -2; at < 60; at++ {
		out += fmt.Sprint(At(l, t, at), Path(t, at))
	}
	for _, n := range t.Nodes {
		out += fmt.Sprint(Span(l, n))
	}
	return out
}

var someTexts = []string{"", "a", "- a: [b, c: d]\n  e: 'f\n- ]\n", "--- a b\n...\n{c: d}\n", "a:\n- b\n- c\nd: |\n  e\n", "[a\n]b\n\xff"}

// P2, P3: what is handed in, its spare room too, stays as it is; an answer is new, and the same again.
func TestWhatIsHandedInIsNotChanged(t *testing.T) {
	for _, b := range someTexts {
		l, tree, _ := parse.Tree([]byte(b), 50)
		// All lists with spare room, which tells too whether it was written into.
		l = append(slices.Clone(l), api.Token{Kind: 98}, api.Token{Kind: 99})
		nodes := append(slices.Clone(tree.Nodes), api.Node{Kind: 98}, api.Node{Kind: 99})
		for i, n := range nodes {
			nodes[i].Kids = append(slices.Clone(n.Kids), 97, 98, 99)[:len(n.Kids)]
		}
		shown := func() string {
			out := fmt.Sprint(l, nodes)
			for _, n := range nodes {
				out += fmt.Sprint(n.Kids[:len(n.Kids)+3])
			}
			return out
		}
		given := arena.Tree{Nodes: nodes[:len(nodes)-2]}
		was, first := shown(), all(l[:len(l)-2], given)
		for at := range given.Nodes {
			path := Path(given, at)
			clear(path[:cap(path)])
		}
		order := Order(given)
		clear(order[:cap(order)])
		if again := all(l[:len(l)-2], given); again != first {
			t.Errorf("P3: %q: %s, then %s", b, first, again)
		}
		if now := shown(); now != was {
			t.Errorf("P2: %q: %s, then %s", b, was, now)
		}
		// It isn't kept: what is done to it afterwards is in no answer of before.
		order, path := Order(given), Path(given, len(given.Nodes)-1)
		told := fmt.Sprint(order, path)
		for i, n := range nodes {
			clear(n.Kids)
			nodes[i].Up = 7
		}
		if now := fmt.Sprint(order, path); now != told {
			t.Errorf("P2: %q: %s, then %s", b, told, now)
		}
	}
}

// P2: no kids and an empty list of them are the same.
func TestNoKids(t *testing.T) {
	tree := grown()
	want := all(nil, tree)
	for i, n := range tree.Nodes {
		if len(n.Kids) == 0 {
			tree.Nodes[i].Kids = []int{}
		}
	}
	if got := all([]api.Token{}, tree); got != want {
		t.Errorf("P2: %s, not %s", got, want)
	}
	if got := all(nil, arena.Tree{Nodes: []api.Node{}}); got != all(nil, arena.Tree{}) {
		t.Errorf("P2: %s of no nodes", got)
	}
}

// ends calls all five in many ways, and fails if that takes too long. (A panic would fail by itself.)
func ends(t *testing.T, name string, l []api.Token, tree arena.Tree) {
	t.Helper()
	began := time.Now()
	seen := map[int]bool{}
	for _, at := range Order(tree) {
		if at < 0 || at >= len(tree.Nodes) || seen[at] {
			t.Fatalf("P1302: %s: %d is told", name, at)
		}
		seen[at] = true
	}
	Errors(tree)
	numbers := append(notPlaces(len(tree.Nodes)), 0, 1, len(tree.Nodes)/2, len(tree.Nodes)-2, len(tree.Nodes)-1)
	for _, at := range numbers {
		Path(tree, at)
		At(l, tree, at)
		for _, to := range numbers {
			Span(l, api.Node{From: at, To: to})
		}
	}
	if took := time.Since(began); took > 20*time.Second {
		t.Errorf("P1: %s took %v", name, took)
	}
}

// P1, P8: trees that no calls lead to, tokens that are of no text.
func TestWhatMayNotBe(t *testing.T) {
	d := die(8)
	wild := func(size int) int {
		if d.of(8) == 0 {
			return []int{-1, math.MinInt, math.MaxInt, size, -size}[d.of(5)]
		}
		return d.of(size + 2)
	}
	for range 20000 {
		l := make([]api.Token, d.of(8))
		for i := range l {
			l[i] = api.Token{Kind: wild(30), From: wild(12), To: wild(12)}
		}
		nodes := make([]api.Node, d.of(8))
		for i := range nodes {
			nodes[i] = api.Node{Kind: wild(13), From: wild(len(l)), To: wild(len(l)), Up: wild(len(nodes)), Key: d.of(2) == 0}
			for range d.of(4) {
				nodes[i].Kids = append(nodes[i].Kids, wild(len(nodes)))
			}
		}
		ends(t, fmt.Sprint(l, nodes), l, arena.Tree{Nodes: nodes})
	}
}

// P1: trees that are very deep, or go round, or in which one is had by many.
func TestGreatTreesThatMayNotBe(t *testing.T) {
	const count = 1 << 20
	for _, x := range []struct {
		name string
		node func(i int) api.Node
	}{
		{"deep", func(i int) api.Node { return api.Node{Up: i - 1, Kids: []int{i + 1}, To: 1} }},
		{"twice", func(i int) api.Node { return api.Node{Up: i - 1, Kids: []int{i + 1, i + 1}, To: 1} }},
		{"all that follow", func(i int) api.Node { return api.Node{Up: i / 2, Kids: []int{i + 1, i + 2, i + 3}, To: 1} }},
		{"round", func(i int) api.Node { return api.Node{Up: (i + 1) % count, Kids: []int{(i + 1) % count}, To: 1} }},
		{"back", func(i int) api.Node {
			return api.Node{Up: (i + count - 1) % count, Kids: []int{0, i, i - 1, i + 1}, To: 1}
		}},
		{"itself", func(i int) api.Node { return api.Node{Up: i, Kids: []int{i}, To: 1} }},
		{"one behind the other", func(i int) api.Node { return api.Node{Kind: api.NStream, From: i, To: i + 1, Up: -1} }},
	} {
		nodes := make([]api.Node, count)
		for i := range nodes {
			nodes[i] = x.node(i)
		}
		ends(t, x.name, []api.Token{{Kind: api.TPlain, From: 0, To: count}}, arena.Tree{Nodes: nodes})
	}
	// One list that all have.
	nodes := make([]api.Node, 2000)
	kids := make([]int, 2000)
	for i := range nodes {
		kids[i] = i
		nodes[i] = api.Node{Kids: kids}
	}
	ends(t, "all in all", nil, arena.Tree{Nodes: nodes})
}
