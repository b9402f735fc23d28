package walk

import (
	"fmt"
	"slices"
	"strings"
	"testing"

	"corrector/api"
	"corrector/arena"
	"corrector/parse"
)

// holds tells whether a node has a byte in one of its tokens, token by token.
func holds(l []api.Token, n api.Node, at int) bool {
	for _, token := range l[n.From:n.To] {
		for i := token.From; i < token.To; i++ {
			if i == at {
				return true
			}
		}
	}
	return false
}

// within tells whether a node is another one, or in it, however deep: by Kids, from outside in.
func within(t arena.Tree, at, other int) bool {
	if at == other {
		return true
	}
	for _, kid := range t.Nodes[other].Kids {
		if within(t, at, kid) {
			return true
		}
	}
	return false
}

// wantedAt is the node that has a byte and is in all that have it; -1: none has.
func wantedAt(l []api.Token, t arena.Tree, at int) int {
	var have []int
	for i, n := range t.Nodes {
		if holds(l, n, at) {
			have = append(have, i)
		}
	}
	for _, i := range have {
		if !slices.ContainsFunc(have, func(other int) bool { return !within(t, i, other) }) {
			return i
		}
	}
	return -1
}

// wantedPath are all nodes that have one in them, or are it; those that have the others stand ahead.
func wantedPath(t arena.Tree, at int) []int {
	var path []int
	for i := range t.Nodes {
		if within(t, at, i) {
			path = append(path, i)
		}
	}
	slices.SortFunc(path, func(a, b int) int {
		if within(t, b, a) {
			return -1
		}
		return 1
	})
	return path
}

// wantedOrder is a node, then of each in its Kids all that it has so.
func wantedOrder(t arena.Tree, at int) []int {
	order := []int{at}
	for _, kid := range t.Nodes[at].Kids {
		order = append(order, wantedOrder(t, kid)...)
	}
	return order
}

// wantedSpan is from the least byte of all tokens to behind the greatest one; of none where what is ahead ends.
func wantedSpan(l []api.Token, n api.Node) api.Span {
	from, to := 0, 0
	for _, token := range l[:n.From] {
		from = max(from, token.To)
	}
	to = from
	for _, token := range l[n.From:n.To] {
		to = max(to, token.To)
	}
	return api.Span{From: from, To: to}
}

// wrongs are the codes of what is told of error nodes (P1204).
var wrongs = []int{api.DMixed, api.DIndent, api.DSecond, api.DStray, api.DDeep}

// checkNodes holds all that bears on nodes alone against the words; it answers how many there are.
func checkNodes(t *testing.T, name string, tree arena.Tree) int {
	t.Helper()
	order := Order(tree)
	if want := wantedOrder(tree, 0); !slices.Equal(order, want) {
		t.Fatalf("P1301: Order of %s: %v, not %v", name, order, want)
	}
	told := make([]bool, len(tree.Nodes))
	errors := 0
	for _, at := range order {
		if told[at] {
			t.Fatalf("P1302: Order of %s tells %d twice", name, at)
		}
		told[at] = true
		if up := tree.Nodes[at].Up; at > 0 && !told[up] {
			t.Fatalf("P1302: Order of %s tells %d ahead of %d, which it is in", name, at, up)
		}
		if tree.Nodes[at].Kind == api.NError {
			errors++
		}
		if got, want := Path(tree, at), wantedPath(tree, at); !slices.Equal(got, want) {
			t.Fatalf("P1301: Path of %d of %s: %v, not %v", at, name, got, want)
		}
	}
	if slices.Contains(told, false) {
		t.Fatalf("P1302: Order of %s tells not all of %d: %v", name, len(told), order)
	}
	if got := Errors(tree); got != errors {
		t.Fatalf("P1301: Errors of %s: %d, not %d", name, got, errors)
	}
	return len(order)
}

// check holds all five against the words, of a text.
func check(t *testing.T, b string, depth int) (nodes int) {
	t.Helper()
	name := fmt.Sprintf("%q, depth %d", b, depth)
	l, tree, d := parse.Tree([]byte(b), depth)
	nodes = checkNodes(t, name, tree)
	for at := -1; at <= len(b); at++ {
		if got, want := At(l, tree, at), wantedAt(l, tree, at); got != want {
			t.Fatalf("P1301: At of %d of %s: %d, not %d", at, name, got, want)
		}
	}
	for i, n := range tree.Nodes {
		if got, want := Span(l, n), wantedSpan(l, n); got != want {
			t.Fatalf("P1301: Span of %d of %s: %v, not %v", i, name, got, want)
		}
	}
	told := 0
	for _, x := range d {
		if slices.Contains(wrongs, x.Code) {
			told++
		}
	}
	if got := Errors(tree); got != told {
		t.Fatalf("P1301: Errors of %s: %d, not the %d told", name, got, told)
	}
	return nodes
}

// everyText calls do with each text of up to so many pieces.
func everyText(pieces []string, count int, do func(text string)) {
	texts := []string{""}
	for range count + 1 {
		var longer []string
		for _, text := range texts {
			do(text)
			for _, piece := range pieces {
				longer = append(longer, text+piece)
			}
		}
		texts = longer
	}
}

func TestEveryShortText(t *testing.T) {
	for _, x := range []struct {
		pieces []string
		count  int
	}{
		{[]string{"a", ": ", "- ", "\n", " ", "]"}, 5},
		{[]string{"[", "{", "]", "}", ",", "a: ", "\n"}, 4},
		{[]string{"---\n", "...", "- ", "a:\n", "|\n", " b", "*c"}, 4},
		{[]string{"'", "\"\\q", "\xff", "\t", "# d", "\r\n", "&e "}, 4},
	} {
		everyText(x.pieces, x.count, func(text string) {
			check(t, text, 1)
			check(t, text, 50)
		})
	}
}

// die throws, always the same.
type die uint32

func (d *die) of(n int) int {
	*d = *d*1664525 + 1013904223
	return int(*d>>8) % n
}

// thrown is a text of some pieces.
func (d *die) thrown(pieces []string, most int) string {
	text := ""
	for range d.of(most) {
		text += pieces[d.of(len(pieces))]
	}
	return text
}

func TestWildTexts(t *testing.T) {
	pieces := []string{
		"- ", "- ", "-\n", "a: ", "a:\n", "*b : ", "'k': ", ": ", "&a !b ", "c", "d e", "'f'", "\"g\"", "'", "\\q", "*h ",
		"\n", "\n", "\n ", "\n  ", "\n   ", "\r\n", " ", "\t", " # i\n", "[", "{", "]", "}", ", ", "[a, b]", "{c: d}", "|\n  a\n", ">-\n b\n", "\n---", "\n...", "\n--- ", "\xff", "\xc3\xa9",
	}
	d := die(1301)
	nodes := 0
	for range 4000 {
		nodes += check(t, d.thrown(pieces, 30), 1+d.of(6))
	}
	if nodes < 30000 {
		t.Errorf("only %d nodes", nodes)
	}
}

// Trees that calls of arena lead to, of which Order is not that of the numbers.
func TestWildTrees(t *testing.T) {
	d := die(1302)
	nodes, turned := 0, 0
	for range 4000 {
		tree := arena.New(30)
		for range d.of(40) {
			up := d.of(len(tree.Nodes))
			from := tree.Nodes[up].From + d.of(3)
			if kids := tree.Nodes[up].Kids; len(kids) > 0 {
				from = tree.Nodes[kids[len(kids)-1]].To + d.of(2)
			}
			tree, _ = arena.Add(tree, up, 2+d.of(10), from, from+d.of(3))
		}
		nodes += checkNodes(t, fmt.Sprint(tree), tree)
		if !slices.IsSorted(Order(tree)) {
			turned++
		}
	}
	if nodes < 40000 || turned < 2000 {
		t.Errorf("only %d nodes, %d trees not by numbers", nodes, turned)
	}
}

// P1: the longest texts, of all sorts of trees, end in time.
func TestLongestTexts(t *testing.T) {
	for _, piece := range []string{"-\n", "- ", "a: ", "a:\n", "- a\n", "]\n", "[", "{a: ", "[]\n", "---\n", "--- a\n", "...\n", "\xff", "\n", ": \n", "a: [b, c]\n", "- - - ]\n"} {
		b := strings.Repeat(piece, api.MaxText/len(piece))
		l, tree, _ := parse.Tree([]byte(b), 50)
		order := Order(tree)
		if !slices.Equal(order, wantedOrder(tree, 0)) || len(order) != len(tree.Nodes) {
			t.Errorf("P1302: many %q: %d of %d nodes", piece, len(order), len(tree.Nodes))
		}
		last := -1
		for at := range len(b) {
			n := At(l, tree, at)
			if s := Span(l, tree.Nodes[n]); at < s.From || at >= s.To {
				t.Fatalf("P1301: many %q: At of %d: %d, which is %v", piece, at, n, s)
			}
			if path := Path(tree, n); n != last && (path[0] != 0 || path[len(path)-1] != n) {
				t.Fatalf("P1301: many %q: Path of %d: %v", piece, n, path)
			}
			last = n
		}
	}
}
