package parse

import (
	"fmt"
	"slices"
	"strings"
	"testing"

	"corrector/api"
	"corrector/arena"
)

var manyTexts = []string{
	"", "a", "a: b", "- a: [b, c: d, {e: f, [g, h, i, j, k]}]\n  l: 'm\n- [n\n", "a:\n- b\n- c\n- d\n- e\n- f\ng: h\n i\nj: k l: m", "--- a b\n--- ]\n... c\n- - - - d\n\t\xff",
	"- a\n- b: |\n  c\n- \"\\q\\\n---\n- {d: [e}, f\n g: h", "[a, b]\n[c]\nd: e\n- f", ": \n: \n: \n: \n: \n- a\n", "- {a, b, c: d, e, f}\n- [a, b, c: d, e, f]",
}

// P2: what is handed in, its spare room too, stays as it is, and whatever is done to an answer; nothing of it is in a later answer.
func TestWhatIsHandedInIsNotChanged(t *testing.T) {
	for _, text := range manyTexts {
		for _, depth := range []int{0, 1, 2, 50} {
			room := []byte(text + "---\nspare [room\n")
			all := string(room)
			b := room[:len(text)]
			l, tree, d := Tree(b, depth)
			was := fmt.Sprint(l, tree, d)
			clear(l[:cap(l)])
			for _, n := range tree.Nodes {
				clear(n.Kids[:cap(n.Kids)])
			}
			clear(tree.Nodes[:cap(tree.Nodes)])
			clear(d[:cap(d)])
			if string(room) != all {
				t.Fatalf("P2: %q: changed to %q", all, room)
			}
			l, tree, d = Tree(b, depth)
			clear(room)
			if got := fmt.Sprint(l, tree, d); got != was {
				t.Fatalf("P2: %q: %s, then %s", text, was, got)
			}
		}
	}
}

// P2: no two lists of an answer share any memory, their spare room neither.
func TestListsShareNothing(t *testing.T) {
	for _, text := range manyTexts {
		_, got, _ := Tree([]byte(text), 4)
		want := slices.Clone(got.Nodes)
		for i := range want {
			want[i].Kids = slices.Clone(want[i].Kids)
		}
		for i := range want {
			for range 5 {
				got.Nodes[i].Kids = append(got.Nodes[i].Kids, -i)
				want[i].Kids = append(want[i].Kids, -i)
			}
			for j := range want[i].Kids {
				got.Nodes[i].Kids[j]--
				want[i].Kids[j]--
			}
			if !arena.Same(got, arena.Tree{Nodes: want}) {
				t.Fatalf("P2: %q: node %d: %v, not %v", text, i, got.Nodes, want)
			}
		}
	}
}

// P3: nothing is kept from call to call.
func TestAnswersAreTheSameAgain(t *testing.T) {
	was := map[string]string{}
	for range 3 {
		for _, text := range manyTexts {
			for depth := range 5 {
				l, tree, d := Tree([]byte(text), depth)
				name, got := fmt.Sprint(depth, text), fmt.Sprint(l, tree, d)
				if was[name] != "" && was[name] != got {
					t.Fatalf("P3: %q: %s, then %s", text, was[name], got)
				}
				was[name] = got
			}
		}
	}
}

// P1: all ends in time, however long it is; what is made and told is of the length.
func TestLongestTexts(t *testing.T) {
	for _, piece := range []string{
		"-\n", "- ", "-", ":\n", ": ", "a: ", "a:\n", "a\n", "- a\n", "- - - a\n", "\t- a\n", "]\n", "] ", "[", "[\n", "{a: ", "[]\n", "a: [\n", "}\n", "|\n", "- |\n a\n", ">\n\n", "&a\n", "*a : \n",
		"--- a\n", "---\n", "...\n", "... a\n", "--- ]\n", "--- - \n", "'", "'\n", "\"\\q", "\"\\q\n", "\xff", "\xff\n", "\n", " ", "#\n", "\r", "a: 'b' c\n", "- a\nb:\n", "a:\n- b\n", " a: b\n- c\n", "\n  ", "a: b\n c\n",
	} {
		for _, head := range []string{"", "- - ", "a:\n- b\n", "[a", "--- {", "x\n- [\n"} {
			b := head + strings.Repeat(piece, (api.MaxText-len(head))/len(piece))
			for _, depth := range []int{1, 50} {
				l, tree, told := Tree([]byte(b), depth)
				checkWhole(t, b, l, tree, told)
				if len(told) > 3*len(l)+len(b) || len(tree.Nodes) > 3*len(l)+3 {
					t.Errorf("P1204: many %q behind %q: %d tokens, %d nodes, %d told", piece, head, len(l), len(tree.Nodes), len(told))
				}
			}
		}
	}
}

// P1204: whatever the bytes are.
func TestWildBytes(t *testing.T) {
	const signs = "-: \n[]{},'\"|>#&*!.\t\ra"
	d := die(7)
	for range 20000 {
		b := make([]byte, d.of(60))
		for i := range b {
			b[i] = byte(d.of(256))
			if d.of(2) == 0 {
				b[i] = signs[d.of(len(signs))]
			}
		}
		check(t, string(b), 1+d.of(4))
	}
}

// P1: a longest text of many rows is as the words have it, too.
func TestLongWildTexts(t *testing.T) {
	d := die(9)
	for _, depth := range []int{2, 50} {
		b := ""
		for len(b) < 4000 {
			b += d.wildRow()
		}
		check(t, b, depth)
	}
}
