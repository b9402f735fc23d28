package arena

import (
	"fmt"
	"math"
	"slices"
	"strings"
	"testing"

	"corrector/api"
)

// letters are the kinds of nodes, a letter each, from 0 on.
const letters = "?sdQqMpca[{x"

// shown is a tree in a line: of each node its letter, its tokens, its Up, its kids, and a ! for Key.
func shown(t Tree) string {
	var out []string
	for _, n := range t.Nodes {
		kind := "?"
		if n.Kind > 0 && n.Kind < len(letters) {
			kind = letters[n.Kind : n.Kind+1]
		}
		s := fmt.Sprintf("%s%d-%d^%d", kind, n.From, n.To, n.Up)
		if len(n.Kids) > 0 {
			s += fmt.Sprint(n.Kids)
		}
		if n.Key {
			s += "!"
		}
		out = append(out, s)
	}
	return strings.Join(out, " ")
}

// call is an Add, or, of kind grow, a Grow at up.
type call struct{ up, kind, from, to int }

const grow = -77

// do makes a call, and answers the tree and the number that Add told (of Grow: how many nodes there are).
func do(t Tree, c call) (Tree, int) {
	if c.kind == grow {
		t = Grow(t, c.up, c.to)
		return t, len(t.Nodes)
	}
	return Add(t, c.up, c.kind, c.from, c.to)
}

// led is what calls lead to.
func led(tokens int, calls ...call) Tree {
	t := New(tokens)
	for _, c := range calls {
		t, _ = do(t, c)
	}
	return t
}

// small is a stream of nine tokens, in it a document and an error, in the document a map of a pair and of an empty one.
func small() Tree {
	return led(9,
		call{0, api.NDoc, 1, 1}, call{1, api.NMap, 1, 2}, call{2, api.NPair, 2, 4}, call{3, api.NScalar, 2, 3},
		call{2, api.NPair, 5, 5}, call{0, api.NError, 6, 8})
}

const smallShown = "s0-9^-1[1 6] d1-5^0[2] M1-5^1[3 5] p2-4^2[4] c2-3^3 p5-5^2 x6-8^0"

func TestNew(t *testing.T) {
	for _, x := range [][2]int{{0, 0}, {1, 1}, {3, 3}, {1<<15 - 1, 1<<15 - 1}, {1 << 15, 1 << 15}, {1<<15 + 1, 0}, {math.MaxInt, 0}, {-1, 0}, {math.MinInt, 0}} {
		want := fmt.Sprintf("s0-%d^-1", x[1])
		if got := shown(New(x[0])); got != want {
			t.Errorf("P1001: New(%d): %s, not %s", x[0], got, want)
		}
	}
}

func TestAddAndGrowOneBehindTheOther(t *testing.T) {
	if got := shown(small()); got != smallShown {
		t.Errorf("P1001: %s, not %s", got, smallShown)
	}
	tree := New(9)
	for _, x := range []struct {
		c    call
		at   int
		want string
	}{
		{call{0, api.NDoc, 1, 1}, 1, "s0-9^-1[1] d1-1^0"},
		{call{1, api.NSeq, 2, 4}, 2, "s0-9^-1[1] d1-4^0[2] Q2-4^1"},               // d reaches to 4
		{call{2, api.NItem, 3, 3}, 3, "s0-9^-1[1] d1-4^0[2] Q2-4^1[3] q3-3^2"},    // they reached to 4 already
		{call{1, grow, 0, 5}, 4, "s0-9^-1[1] d1-5^0[2] Q2-4^1[3] q3-3^2"},         // not those in it
		{call{3, grow, 0, 7}, 4, "s0-9^-1[1] d1-7^0[2] Q2-7^1[3] q3-7^2"},         // all that it is in
		{call{3, grow, 0, 6}, 4, "s0-9^-1[1] d1-7^0[2] Q2-7^1[3] q3-7^2"},         // they did already
		{call{3, grow, 0, 10}, 4, "s0-9^-1[1] d1-7^0[2] Q2-7^1[3] q3-7^2"},        // above the first one's To
		{call{2, api.NItem, 6, 8}, none, "s0-9^-1[1] d1-7^0[2] Q2-7^1[3] q3-7^2"}, // below the To of the last one in it
		{call{0, api.NError, 9, 9}, 4, "s0-9^-1[1 4] d1-7^0[2] Q2-7^1[3] q3-7^2 x9-9^0"},
		{call{3, grow, 0, 9}, 5, "s0-9^-1[1 4] d1-9^0[2] Q2-9^1[3] q3-9^2 x9-9^0"},
	} {
		var at int
		tree, at = do(tree, x.c)
		if got := shown(tree); got != x.want || at != x.at {
			t.Fatalf("P1001: %v: %d, %s, not %d, %s", x.c, at, got, x.at, x.want)
		}
	}
}

func TestAddTakes(t *testing.T) {
	for kind := 1; kind <= 11; kind++ {
		tree, at := Add(small(), 6, kind, 7, 9)
		want := strings.Replace(smallShown, "x6-8^0", "x6-9^0[7] "+letters[kind:kind+1]+"7-9^6", 1)
		if got := shown(tree); got != want || at != 7 {
			t.Errorf("P1001: kind %d: %d, %s", kind, at, got)
		}
	}
	for _, x := range []struct {
		c    call
		want string
	}{
		// from at up's From, at the last one's To, to at from, at the first one's To
		{call{6, api.NError, 6, 6}, "s0-9^-1[1 6] d1-5^0[2] M1-5^1[3 5] p2-4^2[4] c2-3^3 p5-5^2 x6-8^0[7] x6-6^6"},
		{call{0, api.NDoc, 8, 9}, "s0-9^-1[1 6 7] d1-5^0[2] M1-5^1[3 5] p2-4^2[4] c2-3^3 p5-5^2 x6-8^0 d8-9^0"},
		{call{0, api.NDoc, 9, 9}, "s0-9^-1[1 6 7] d1-5^0[2] M1-5^1[3 5] p2-4^2[4] c2-3^3 p5-5^2 x6-8^0 d9-9^0"},
		{call{5, api.NError, 5, 6}, "s0-9^-1[1 6] d1-6^0[2] M1-6^1[3 5] p2-4^2[4] c2-3^3 p5-6^2[7] x6-8^0 x5-6^5"},
		{call{4, api.NError, 2, 2}, "s0-9^-1[1 6] d1-5^0[2] M1-5^1[3 5] p2-4^2[4] c2-3^3[7] p5-5^2 x6-8^0 x2-2^4"},
		// behind where up ends
		{call{5, api.NError, 7, 8}, "s0-9^-1[1 6] d1-8^0[2] M1-8^1[3 5] p2-4^2[4] c2-3^3 p5-8^2[7] x6-8^0 x7-8^5"},
		// something stands behind: nobody asks
		{call{3, api.NScalar, 3, 9}, "s0-9^-1[1 6] d1-9^0[2] M1-9^1[3 5] p2-9^2[4 7] c2-3^3 p5-5^2 x6-8^0 c3-9^3"},
	} {
		tree, at := do(small(), x.c)
		if got := shown(tree); got != x.want || at != 7 {
			t.Errorf("P1001: %v: %d, %s, not %s", x.c, at, got, x.want)
		}
	}
}

func TestAddRefuses(t *testing.T) {
	for _, c := range []call{
		// up is no node's number
		{-1, api.NError, 8, 9}, {7, api.NError, 8, 9}, {math.MinInt, api.NError, 8, 9}, {math.MaxInt, api.NError, 8, 9},
		// no kind
		{0, 0, 8, 9}, {0, 12, 8, 9}, {0, -1, 8, 9}, {0, math.MinInt, 8, 9}, {0, math.MaxInt, 8, 9},
		// from above to
		{0, api.NError, 9, 8}, {6, api.NError, 7, 6}, {0, api.NError, 8, math.MinInt}, {0, api.NError, 10, 9}, {0, api.NError, math.MaxInt, 9},
		// to above the first one's To
		{0, api.NError, 8, 10}, {0, api.NError, 10, 10}, {4, api.NError, 3, 10}, {0, api.NError, 8, math.MaxInt}, {0, api.NError, math.MaxInt, math.MaxInt},
		// from below up's From
		{4, api.NError, 1, 3}, {6, api.NError, 5, 9}, {5, api.NError, 4, 6}, {4, api.NError, -1, 3}, {4, api.NError, math.MinInt, 3},
		// below the To of the last one in it
		{0, api.NError, 7, 9}, {2, api.NError, 4, 9}, {3, api.NError, 2, 2}, {1, api.NError, 4, 5}, {0, api.NError, math.MinInt, 9}, {0, api.NError, -1, -1},
	} {
		tree, at := do(small(), c)
		if got := shown(tree); got != smallShown || at != none {
			t.Errorf("P1001: %v: %d, %s", c, at, got)
		}
	}
	for _, from := range []int{-1, math.MinInt} {
		if tree, at := Add(New(3), 0, api.NDoc, from, 3); at != none || shown(tree) != "s0-3^-1" {
			t.Errorf("P1001: from %d: %d, %s", from, at, shown(tree))
		}
	}
}

func TestGrow(t *testing.T) {
	for _, x := range []struct {
		at, to int
		want   string
	}{
		{6, 9, "s0-9^-1[1 6] d1-5^0[2] M1-5^1[3 5] p2-4^2[4] c2-3^3 p5-5^2 x6-9^0"},
		{5, 6, "s0-9^-1[1 6] d1-6^0[2] M1-6^1[3 5] p2-4^2[4] c2-3^3 p5-6^2 x6-8^0"},
		{4, 4, "s0-9^-1[1 6] d1-5^0[2] M1-5^1[3 5] p2-4^2[4] c2-4^3 p5-5^2 x6-8^0"},
		{4, 9, "s0-9^-1[1 6] d1-9^0[2] M1-9^1[3 5] p2-9^2[4] c2-9^3 p5-5^2 x6-8^0"},
		{1, 6, "s0-9^-1[1 6] d1-6^0[2] M1-5^1[3 5] p2-4^2[4] c2-3^3 p5-5^2 x6-8^0"},
		// all reach so far
		{0, 9, smallShown}, {0, 4, smallShown}, {6, 8, smallShown}, {6, 7, smallShown}, {5, 5, smallShown}, {4, -1, smallShown}, {4, math.MinInt, smallShown},
		// too far
		{6, 10, smallShown}, {0, 10, smallShown}, {4, math.MaxInt, smallShown},
		// no node
		{-1, 9, smallShown}, {7, 9, smallShown}, {math.MinInt, 9, smallShown}, {math.MaxInt, 9, smallShown},
	} {
		if got := shown(Grow(small(), x.at, x.to)); got != x.want {
			t.Errorf("P1001: Grow(t, %d, %d): %s, not %s", x.at, x.to, got, x.want)
		}
	}
}

// A key is told by who reads brackets or rows, on the tree itself: it stays told.
func TestKeysStay(t *testing.T) {
	tree := small()
	tree.Nodes[3].Key = true
	want := strings.Replace(smallShown, "p2-4^2[4]", "p2-4^2[4]!", 1)
	for _, c := range []call{{4, grow, 0, 3}, {9, grow, 0, 3}, {9, api.NError, 0, 3}} {
		if got, _ := do(tree, c); shown(got) != want {
			t.Errorf("P1001: %v: %s, not %s", c, shown(got), want)
		}
	}
	if got, _ := Add(tree, 6, api.NError, 7, 7); shown(got) != strings.Replace(want, "x6-8^0", "x6-8^0[7] x7-7^6", 1) {
		t.Errorf("P1001: %s", shown(got))
	}
}

func TestCheckAllows(t *testing.T) {
	for i, f := range []func(n []api.Node) []api.Node{
		func(n []api.Node) []api.Node { return n },
		func(n []api.Node) []api.Node { n[3].Key = true; return n },
		func(n []api.Node) []api.Node { n[4].Kids = []int{}; return n },
		// of kinds it asks the first one's alone
		func(n []api.Node) []api.Node { n[4].Kind = 0; return n },
		func(n []api.Node) []api.Node { n[4].Kind = 12; return n },
		func(n []api.Node) []api.Node { n[1].Kind = api.NStream; return n },
		// room between those in it, and at both ends
		func(n []api.Node) []api.Node { n[4].From, n[4].To = 3, 3; return n },
		func(n []api.Node) []api.Node { n[2].To, n[5].From = 6, 4; n[1].To = 6; return n },
		// order is that of places, not of numbers
		func(n []api.Node) []api.Node { n[0].Kids = []int{6, 1}; n[6].From, n[6].To = 0, 1; return n },
		func(n []api.Node) []api.Node { n[2].Kids = []int{5, 3}; n[5].From, n[5].To = 2, 2; return n },
	} {
		tree := small()
		tree.Nodes = f(tree.Nodes)
		if !Check(tree, 9) {
			t.Errorf("P1002: %d: %s", i, shown(tree))
		}
	}
	for _, n := range []int{0, 1, 1 << 15} {
		if !Check(New(n), n) {
			t.Errorf("P1002: New(%d)", n)
		}
	}
	// It has no count of its own.
	if !Check(Tree{[]api.Node{{Kind: api.NStream, To: math.MaxInt, Up: -1}}}, math.MaxInt) {
		t.Error("P1002: a long stream")
	}
}

func TestCheckRefuses(t *testing.T) {
	for i, f := range []func(n []api.Node) []api.Node{
		func(n []api.Node) []api.Node { return nil },
		func(n []api.Node) []api.Node { return n[:0] },
		// the first one
		func(n []api.Node) []api.Node { n[0].Kind = 0; return n },
		func(n []api.Node) []api.Node { n[0].Kind = api.NDoc; return n },
		func(n []api.Node) []api.Node { n[0].From = 1; return n },
		func(n []api.Node) []api.Node { n[0].From = -1; return n },
		func(n []api.Node) []api.Node { n[0].To = 10; return n },
		func(n []api.Node) []api.Node { n[0].To = 8; return n },
		func(n []api.Node) []api.Node { n[0].Up = -2; return n },
		func(n []api.Node) []api.Node { n[0].Up = 0; return n },
		func(n []api.Node) []api.Node { n[0].Up = 1; return n },
		// Up: no node's, not ahead of it, another one's
		func(n []api.Node) []api.Node { n[6].Up = -1; return n },
		func(n []api.Node) []api.Node { n[6].Up = 7; return n },
		func(n []api.Node) []api.Node { n[6].Up = 6; return n },
		func(n []api.Node) []api.Node { n[6].Up = 1; return n },
		func(n []api.Node) []api.Node { n[6].Up = math.MinInt; return n },
		func(n []api.Node) []api.Node { n[6].Up = math.MaxInt; return n },
		func(n []api.Node) []api.Node { n[5].Up, n[2].Kids, n[6].Kids = 6, []int{3}, []int{5}; return n },
		func(n []api.Node) []api.Node { n[6].Up, n[0].Kids, n[6].Kids = 6, []int{1}, []int{6}; return n },
		// Kids: not there, twice, another one's too, the first one, none, none's
		func(n []api.Node) []api.Node { n[0].Kids = []int{1}; return n },
		func(n []api.Node) []api.Node { n[3].Kids = nil; return n },
		func(n []api.Node) []api.Node { n[2].Kids = []int{3, 5, 5}; return n },
		func(n []api.Node) []api.Node { n[5].Kids = []int{6}; return n },
		func(n []api.Node) []api.Node { n[6].Kids = []int{5}; return n },
		func(n []api.Node) []api.Node { n[1].Kids = []int{2, 3, 5}; return n },
		func(n []api.Node) []api.Node { n[4].Kids = []int{0}; return n },
		func(n []api.Node) []api.Node { n[0].Kids = []int{0, 1, 6}; return n },
		func(n []api.Node) []api.Node { n[0].Kids = []int{1, 6, 7}; return n },
		func(n []api.Node) []api.Node { n[0].Kids = []int{-1, 1, 6}; return n },
		func(n []api.Node) []api.Node { n[6].Kids = []int{math.MaxInt}; return n },
		func(n []api.Node) []api.Node { n[6].Kids = []int{math.MinInt}; return n },
		func(n []api.Node) []api.Node { return n[:6] },
		func(n []api.Node) []api.Node { return append(n, api.Node{Kind: api.NError, From: 9, To: 9}) },
		// places: not in it, not in order, upon one another, the wrong way round
		func(n []api.Node) []api.Node { n[6].To = 10; return n },
		func(n []api.Node) []api.Node { n[2].To = 6; return n },
		func(n []api.Node) []api.Node { n[2].From = 0; return n },
		func(n []api.Node) []api.Node { n[1].From = -1; return n },
		func(n []api.Node) []api.Node { n[4].To = 5; return n },
		func(n []api.Node) []api.Node { n[0].Kids = []int{6, 1}; return n },
		func(n []api.Node) []api.Node { n[2].Kids = []int{5, 3}; return n },
		func(n []api.Node) []api.Node { n[6].From = 4; return n },
		func(n []api.Node) []api.Node { n[3].To, n[4].To = 6, 5; return n },
		func(n []api.Node) []api.Node { n[4].From, n[4].To = 3, 2; return n },
		func(n []api.Node) []api.Node { n[6].From, n[6].To = 8, 7; return n },
	} {
		tree := small()
		tree.Nodes = f(tree.Nodes)
		if Check(tree, 9) {
			t.Errorf("P1002: %d: %s", i, shown(tree))
		}
	}
	for _, n := range []int{math.MinInt, -9, -1, 0, 8, 10, math.MaxInt} {
		if Check(small(), n) {
			t.Errorf("P1002: of %d tokens", n)
		}
	}
	if Check(Tree{[]api.Node{{Kind: api.NStream, To: -1, Up: -1}}}, -1) {
		t.Error("P1002: of -1 tokens, from 0 on")
	}
}

func TestSame(t *testing.T) {
	trees := []Tree{{}, New(0), New(1), small()}
	for at := range small().Nodes {
		for _, f := range []func(n *api.Node){
			func(n *api.Node) { n.Kind++ }, func(n *api.Node) { n.From++ }, func(n *api.Node) { n.To++ }, func(n *api.Node) { n.Up++ }, func(n *api.Node) { n.Key = true },
			func(n *api.Node) { n.Kids = append(n.Kids, 7) }, func(n *api.Node) { n.Kids = append([]int{8}, n.Kids...) },
		} {
			tree := small()
			f(&tree.Nodes[at])
			trees = append(trees, tree)
		}
	}
	for _, kids := range [][]int{nil, {1}, {6}, {6, 1}, {1, 5}} {
		tree := small()
		tree.Nodes[0].Kids = kids
		trees = append(trees, tree)
	}
	for count := 1; count < 7; count++ {
		trees = append(trees, Tree{small().Nodes[:count]})
	}
	for i, a := range trees {
		for j, b := range trees {
			if Same(a, b) != (i == j) {
				t.Errorf("P1002: %d, %d: %s and %s", i, j, shown(a), shown(b))
			}
		}
		if again := owned(a); !Same(a, again) || !Same(again, a) {
			t.Errorf("P1002: %d: %s and its copy", i, shown(a))
		}
	}
}

// P2: no list and an empty one are the same.
func TestNoListAndAnEmptyOne(t *testing.T) {
	a, b := small(), small()
	b.Nodes[4].Kids, b.Nodes[5].Kids = []int{}, make([]int, 0, 4)
	if !Same(a, b) || !Same(b, a) || !Same(Tree{}, Tree{Nodes: []api.Node{}}) {
		t.Error("P2: they differ")
	}
	for _, c := range []call{{5, api.NError, 5, 5}, {6, grow, 0, 9}, {9, grow, 0, 9}} {
		x, m := do(a, c)
		if y, n := do(b, c); !Same(x, y) || m != n {
			t.Errorf("P2: %v: %s and %s", c, shown(x), shown(y))
		}
	}
}

// owned is a tree like t in memory of its own.
func owned(t Tree) Tree {
	n := Tree{slices.Clone(t.Nodes)}
	for i := range n.Nodes {
		n.Nodes[i].Kids = slices.Clone(n.Nodes[i].Kids)
	}
	return n
}

// roomy is a tree like t, all of whose lists have spare room, with something in it.
func roomy(t Tree) Tree {
	n := Tree{append(slices.Clone(t.Nodes), make([]api.Node, 3)...)[:len(t.Nodes)]}
	for i := range n.Nodes {
		n.Nodes[i].Kids = append(slices.Clone(n.Nodes[i].Kids), 77, 78, 79)[:len(n.Nodes[i].Kids)]
	}
	return n
}

// wholly is all that a tree has, its spare room too.
func wholly(t Tree) string {
	out := fmt.Sprint(t.Nodes[:cap(t.Nodes)])
	for _, n := range t.Nodes {
		out += fmt.Sprint(n.Kids[:cap(n.Kids)])
	}
	return out
}

var manyCalls = []call{
	{0, api.NDoc, 8, 9}, {6, api.NError, 7, 9}, {5, api.NError, 5, 9}, {4, api.NError, 2, 9}, {3, api.NError, 3, 9},
	{6, grow, 0, 9}, {4, grow, 0, 9}, {0, grow, 0, 9}, {4, grow, 0, 2},
	{-1, api.NError, 8, 9}, {0, 12, 8, 9}, {0, api.NError, 0, 0}, {7, grow, 0, 9}, {0, grow, 0, 10},
}

// P2: what is handed in, its spare room too, stays as it is, and whatever is done to an answer.
func TestWhatIsHandedInIsNotChanged(t *testing.T) {
	for _, c := range manyCalls {
		tree := roomy(small())
		before := wholly(tree)
		got, _ := do(tree, c)
		Check(tree, 9)
		Same(tree, got)
		if wholly(tree) != before {
			t.Errorf("P2: %v: changed", c)
		}
		for _, n := range got.Nodes {
			room := n.Kids[:cap(n.Kids)]
			for i := range room {
				room[i] = -5
			}
		}
		clear(got.Nodes[:cap(got.Nodes)])
		if wholly(tree) != before {
			t.Errorf("P2: %v: its answer shares memory with what was handed in", c)
		}
	}
}

// P2: no two lists of an answer share any memory, their spare room neither.
func TestListsShareNothing(t *testing.T) {
	for _, c := range manyCalls {
		got, _ := do(roomy(small()), c)
		want := owned(got)
		for i := range got.Nodes {
			for range 5 {
				got.Nodes[i].Kids = append(got.Nodes[i].Kids, -i)
				want.Nodes[i].Kids = append(want.Nodes[i].Kids, -i)
			}
			for j := range got.Nodes[i].Kids {
				got.Nodes[i].Kids[j]--
				want.Nodes[i].Kids[j]--
			}
			if shown(got) != shown(want) {
				t.Fatalf("P2: %v: node %d: %s, not %s", c, i, shown(got), shown(want))
			}
		}
	}
}

// P2, P3: several trees may grow out of one, and the same calls lead to the same one.
func TestTreesOutOfOne(t *testing.T) {
	base := roomy(small())
	var trees []Tree
	var was []string
	for range 2 {
		for _, c := range manyCalls {
			one, _ := do(base, c)
			for _, d := range manyCalls {
				two, _ := do(one, d)
				trees = append(trees, one, two)
				was = append(was, shown(one), shown(two))
			}
		}
	}
	half := len(trees) / 2
	for i, tree := range trees {
		if shown(tree) != was[i] || shown(tree) != was[i%half] {
			t.Fatalf("P3: %d: %s, not %s, %s", i, shown(tree), was[i], was[i%half])
		}
	}
	a, b := New(4), New(4)
	a.Nodes[0].To = 3
	if shown(b) != "s0-4^-1" || shown(New(4)) != "s0-4^-1" {
		t.Error("P2: two of New share memory")
	}
}

// P1, P8: of trees that no calls lead to nothing is asked but an end, and that they stay as they are.
func TestTreesThatAreNone(t *testing.T) {
	numbers := []int{math.MinInt, -2, -1, 0, 1, 2, 3, 4, 5, math.MaxInt}
	d := die(8)
	one := func() int { return numbers[d.of(len(numbers))] }
	for range 40000 {
		var tree Tree
		for range d.of(5) {
			n := api.Node{Kind: one(), From: one(), To: one(), Up: one(), Key: d.of(2) == 0}
			for range d.of(4) {
				n.Kids = append(n.Kids, one())
			}
			tree.Nodes = append(tree.Nodes, n)
		}
		before := wholly(tree)
		for range 8 {
			x, _ := Add(tree, one(), one(), one(), one())
			y := Grow(tree, one(), one())
			Check(x, one())
			Same(x, y)
		}
		if wholly(tree) != before {
			t.Fatalf("P2: %s changed", before)
		}
	}
	if tree, at := Add(Tree{}, 0, api.NDoc, 0, 0); at != none || len(tree.Nodes) != 0 || len(Grow(Tree{}, 0, 0).Nodes) != 0 {
		t.Error("P8: no tree at all")
	}
}

// P1: all ends in time, however many nodes there are, one beside the other or one in the other.
func TestLongTrees(t *testing.T) {
	const n = api.MaxText / 4
	flat, deep := New(n), New(n)
	for i := range n {
		var at int
		if flat, at = Add(flat, 0, api.NError, i, i+1); at != i+1 {
			t.Fatalf("P1001: %d, not %d", at, i+1)
		}
		if deep, at = Add(deep, i, api.NSeq, i, i+1); at != i+1 {
			t.Fatalf("P1001: %d, not %d", at, i+1)
		}
	}
	for _, tree := range []Tree{flat, deep} {
		if !Check(tree, n) || !Same(tree, owned(tree)) {
			t.Error("P1002: a long tree")
		}
	}
	if last := deep.Nodes[1]; last.To != n {
		t.Errorf("P1001: it reaches to %d", last.To)
	}
}
