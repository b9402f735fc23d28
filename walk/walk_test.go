package walk

import (
	"fmt"
	"math"
	"strings"
	"testing"

	"corrector/api"
	"corrector/arena"
	"corrector/parse"
)

// letters are the kinds of nodes, a letter each, from 0 on.
const letters = "?sdQqMpca[{x"

// kindsAt has of each byte of a text the letter of the node that At answers.
func kindsAt(b string, depth int) string {
	l, t, _ := parse.Tree([]byte(b), depth)
	out := ""
	for at := range len(b) {
		if n := At(l, t, at); n < 0 || n >= len(t.Nodes) {
			out += fmt.Sprintf("(%d)", n)
		} else {
			out += string(letters[t.Nodes[n].Kind])
		}
	}
	return out
}

func TestAt(t *testing.T) {
	for _, x := range []struct{ b, want string }{
		{"a: 1", "cppc"}, {"a", "c"}, {"abc", "ccc"}, {"*ab", "aaa"},
		// what stands ahead of a node, or behind it, is of the one that it is in
		{" a # b\n", "scsssss"}, {"\n\n a", "sssc"}, {"# a\n", "ssss"}, {"\n", "s"}, {"a: 1\nb: 2\n", "cppcMcppcs"},
		{"a: 'b c' # d\n\ne: f", "cppcccccMMMMMMcppc"},
		// items and pairs have their signs, and the blanks ahead of their values
		{"- a\n- b", "qqcQqqc"}, {"-\n-", "qQq"}, {"- - a: b\n  - c\n", "qqqqcppcQQQqqcs"}, {"a:\n- b\n", "cppqqcs"}, {": a", "ppc"},
		{"*a : b", "aapppc"}, {"&a b : c", "ccccpppc"},
		// brackets
		{"[]", "[["}, {"{}", "{{"}, {"[a, b: c]", "[c[[cppc["}, {"{a: [b], c}", "{cpp[c[{{c{"}, {"&a [ b\n,c ]\n", "[[[[[c[[c[[s"}, {"[\n#a\n]", "[[[[[["},
		// a token has several bytes
		{"\xc3\xa9: '\xe2\x82\xac'\r\n", "ccppcccccss"}, {"|\n  a\n\n b\n", "cccccccccc"}, {"- >-\n a\n- b", "qqccccccqqc"},
		// a mark is of the document that it begins or ends
		{"--- a\n...\nb\n", "ddddcddddscs"}, {"---\n---\n", "dddsddds"}, {"...\na", "ssssc"}, {"a\n... b\n", "cddddsxs"},
		// errors
		{"a: b\n]\n", "cppcMxs"}, {"[a] b\n", "[c[dxs"}, {"- a\nb: c\n", "qqcQxxxxs"}, {"a: 'b' c d", "cppcccpxxx"}, {"[}]", "[x["}, {"a\nb\n", "cdxs"},
		{"a:\n  - b\n c: d\n", "cppppqqcQQxxxxs"}, {"- [\n- a", "qq[[ccc"},
		// bytes that are no text, and quotes without an end
		{"\xff", "x"}, {"a: \xff", "cpp" + "x"}, {"'a\nb", "ccdx"},
	} {
		if got := kindsAt(x.b, 50); got != x.want {
			t.Errorf("P1301: At of each byte of %q: %s, not %s", x.b, got, x.want)
		}
	}
	// of depth 1 the list within has no node
	if got := kindsAt("- - a\n- b", 1); got != "qqxxxQqqc" {
		t.Errorf("P1301: %s", got)
	}
}

// notPlaces are of a text of so many bytes none of them.
func notPlaces(size int) []int {
	return []int{-1, -2, math.MinInt32, math.MinInt, math.MinInt + 1, size, size + 1, 2*size + 1, 1 << 20, math.MaxInt32, math.MaxInt - 1, math.MaxInt}
}

// The chapter's example, and where there is no byte at all.
func TestAtOfNoByte(t *testing.T) {
	for _, b := range []string{"", "a", "a: 1", "\n", "- [a, b]\n...\n", "'\xff"} {
		l, tree, _ := parse.Tree([]byte(b), 50)
		for _, at := range notPlaces(len(b)) {
			if n := At(l, tree, at); n != -1 {
				t.Errorf("P1301: At of %d of %q: %d", at, b, n)
			}
		}
	}
	// A text that is too long has no tokens, and one with a depth that may not be has nothing at all.
	for _, x := range []struct {
		b     string
		depth int
	}{{strings.Repeat("a", api.MaxText+1), 50}, {"a: b", 0}, {"a: b", 51}} {
		l, tree, _ := parse.Tree([]byte(x.b), x.depth)
		for _, at := range append(notPlaces(9), 0, 1, 3) {
			if n := At(l, tree, at); n != -1 {
				t.Errorf("P1301: At of %d of %d bytes: %d", at, len(x.b), n)
			}
		}
	}
	if n := At([]api.Token{{Kind: api.TPlain, From: 0, To: 1}}, arena.Tree{}, 0); n != -1 {
		t.Errorf("P1301: At of no nodes: %d", n)
	}
	if n := At(nil, arena.New(0), 0); n != -1 {
		t.Errorf("P1301: At of no tokens: %d", n)
	}
}

// grown is a tree in which numbers do not go by places: a stream of nine tokens, two documents, in each a map of two pairs, put in by turns.
func grown() arena.Tree {
	t := arena.New(9)
	for _, n := range []api.Node{
		{Up: 0, Kind: api.NDoc, From: 0, To: 0},    // 1
		{Up: 0, Kind: api.NDoc, From: 5, To: 5},    // 2
		{Up: 2, Kind: api.NMap, From: 5, To: 5},    // 3
		{Up: 1, Kind: api.NMap, From: 1, To: 1},    // 4
		{Up: 4, Kind: api.NPair, From: 1, To: 2},   // 5
		{Up: 3, Kind: api.NPair, From: 5, To: 6},   // 6
		{Up: 4, Kind: api.NError, From: 2, To: 4},  // 7
		{Up: 5, Kind: api.NScalar, From: 1, To: 2}, // 8
		{Up: 3, Kind: api.NError, From: 7, To: 7},  // 9
		{Up: 0, Kind: api.NError, From: 8, To: 9},  // 10
	} {
		t, _ = arena.Add(t, n.Up, n.Kind, n.From, n.To)
	}
	return t
}

func TestPath(t *testing.T) {
	for i, want := range []string{"[0]", "[0 1]", "[0 2]", "[0 2 3]", "[0 1 4]", "[0 1 4 5]", "[0 2 3 6]", "[0 1 4 7]", "[0 1 4 5 8]", "[0 2 3 9]", "[0 10]"} {
		if got := fmt.Sprint(Path(grown(), i)); got != want {
			t.Errorf("P1301: Path of %d: %s, not %s", i, got, want)
		}
	}
	_, tree, _ := parse.Tree([]byte("- a: [b, {c: d}]\n  e: f\n- g"), 50)
	for i, want := range []string{
		"[0]", "[0 1]", "[0 1 2]", "[0 1 2 3]", "[0 1 2 3 4]", "[0 1 2 3 4 5]", "[0 1 2 3 4 5 6]", "[0 1 2 3 4 5 7]", "[0 1 2 3 4 5 7 8]", "[0 1 2 3 4 5 7 9]",
		"[0 1 2 3 4 5 7 9 10]", "[0 1 2 3 4 5 7 9 10 11]", "[0 1 2 3 4 5 7 9 10 12]", "[0 1 2 3 4 13]", "[0 1 2 3 4 13 14]", "[0 1 2 3 4 13 15]", "[0 1 2 16]", "[0 1 2 16 17]",
	} {
		if got := fmt.Sprint(Path(tree, i)); got != want {
			t.Errorf("P1301: Path of %d: %s, not %s", i, got, want)
		}
	}
}

func TestPathOfNoNode(t *testing.T) {
	for _, tree := range []arena.Tree{{}, arena.New(0), arena.New(9), grown()} {
		for _, at := range notPlaces(len(tree.Nodes)) {
			if got := Path(tree, at); len(got) != 0 {
				t.Errorf("P1301: Path of %d of %d nodes: %v", at, len(tree.Nodes), got)
			}
		}
	}
}

func TestOrder(t *testing.T) {
	if got := fmt.Sprint(Order(grown())); got != "[0 1 4 5 8 7 2 3 6 9 10]" {
		t.Errorf("P1301: Order: %s", got)
	}
	if got := fmt.Sprint(Order(arena.New(7))); got != "[0]" {
		t.Errorf("P1301: Order of the stream alone: %s", got)
	}
	if got := Order(arena.Tree{}); len(got) != 0 {
		t.Errorf("P1301: Order of no nodes: %v", got)
	}
	// Numbers as they came, what is in a node ahead of what stands behind it.
	l, tree, _ := parse.Tree([]byte("a: [b\n]\n- c\n--- d"), 50)
	var got []string
	for _, at := range Order(tree) {
		n := tree.Nodes[at]
		got = append(got, fmt.Sprint(string(letters[n.Kind]), Span(l, n)))
	}
	if want := "s{0 17} d{0 11} M{0 11} p{0 7} c{0 1} [{3 7} c{4 5} x{8 11} d{12 17} c{16 17}"; strings.Join(got, " ") != want {
		t.Errorf("P1301: Order: %s, not %s", strings.Join(got, " "), want)
	}
}

func TestSpan(t *testing.T) {
	l := []api.Token{{Kind: api.TIndent, From: 0, To: 2}, {Kind: api.TPlain, From: 2, To: 3}, {Kind: api.TBreak, From: 3, To: 5}, {Kind: api.TPlain, From: 5, To: 9}}
	for _, x := range []struct {
		from, to int
		want     api.Span
	}{
		{0, 4, api.Span{From: 0, To: 9}}, {0, 1, api.Span{From: 0, To: 2}}, {1, 2, api.Span{From: 2, To: 3}}, {1, 3, api.Span{From: 2, To: 5}}, {2, 4, api.Span{From: 3, To: 9}}, {3, 4, api.Span{From: 5, To: 9}},
		// of no tokens: where the one behind begins, or the last one ends
		{0, 0, api.Span{From: 0, To: 0}}, {1, 1, api.Span{From: 2, To: 2}}, {2, 2, api.Span{From: 3, To: 3}}, {3, 3, api.Span{From: 5, To: 5}}, {4, 4, api.Span{From: 9, To: 9}},
		// tokens that there are not: nobody asks
		{-1, 2, api.Span{}}, {2, 5, api.Span{}}, {5, 5, api.Span{}}, {-1, -1, api.Span{}}, {3, 2, api.Span{}}, {math.MinInt, math.MaxInt, api.Span{}}, {math.MaxInt, math.MaxInt, api.Span{}}, {math.MaxInt, math.MinInt, api.Span{}}, {0, math.MinInt, api.Span{}}, {1, math.MaxInt, api.Span{}},
	} {
		// Of a node nothing but its tokens counts.
		for _, n := range []api.Node{{From: x.from, To: x.to}, {Kind: api.NError, From: x.from, To: x.to, Up: 1, Kids: []int{3, 9}, Key: true}} {
			if got := Span(l, n); got != x.want {
				t.Errorf("P1301: Span of %v: %v, not %v", n, got, x.want)
			}
		}
	}
	// of a single token
	for at, want := range []api.Span{{From: 5, To: 5}, {From: 9, To: 9}} {
		if got := Span(l[3:], api.Node{From: at, To: at}); got != want {
			t.Errorf("P1301: Span at %d of one token: %v, not %v", at, got, want)
		}
	}
	for _, none := range [][]api.Token{nil, {}, l[2:2]} {
		if got := Span(none, api.Node{Kind: api.NStream, Up: -1}); got != (api.Span{}) {
			t.Errorf("P1301: Span of no tokens: %v", got)
		}
	}
}

func TestSpanOfTexts(t *testing.T) {
	for _, x := range []struct{ b, want string }{
		{"", "s{0 0}"}, {"a: 1", "s{0 4} d{0 4} M{0 4} p{0 4} c{0 1} c{3 4}"}, {"\n- 'b' # c\n", "s{0 11} d{1 6} Q{1 6} q{1 6} c{3 6}"},
		{"---\n...\n", "s{0 8} d{0 7}"}, {"- |\n  a\n- ]", "s{0 11} d{0 11} Q{0 11} q{0 8} c{2 8} q{8 11} x{10 11}"},
		{strings.Repeat("a", api.MaxText+1), "s{0 0}"},
	} {
		l, tree, _ := parse.Tree([]byte(x.b), 50)
		var got []string
		for _, n := range tree.Nodes {
			got = append(got, fmt.Sprint(string(letters[n.Kind]), Span(l, n)))
		}
		if strings.Join(got, " ") != x.want {
			t.Errorf("P1301: Spans of %.20q: %s, not %s", x.b, strings.Join(got, " "), x.want)
		}
	}
}

func TestErrors(t *testing.T) {
	for _, x := range []struct {
		b    string
		want int
	}{
		{"", 0}, {"a: [b, c]\n", 0}, {"---\n...\n", 0}, {"]", 1}, {"a: b\n]\n- c\n", 2}, {"[a] b\n---\n- c\nd: e\n", 2}, {"[}, ]", 1},
		// what is told without a node of its own
		{"'a", 0}, {"[a", 0}, {"\t- \"\\q\"", 0},
		{strings.Repeat("]\n", 1000), 1000}, {strings.Repeat("a", api.MaxText+1), 0},
	} {
		_, tree, _ := parse.Tree([]byte(x.b), 50)
		if got := Errors(tree); got != x.want {
			t.Errorf("P1301: Errors of %.20q: %d, not %d", x.b, got, x.want)
		}
	}
	if got := Errors(grown()); got != 3 {
		t.Errorf("P1301: Errors: %d", got)
	}
	if got := Errors(arena.Tree{}); got != 0 {
		t.Errorf("P1301: Errors of no nodes: %d", got)
	}
	for kind := range 13 {
		_, tree, _ := parse.Tree([]byte("a"), 50)
		tree.Nodes[2].Kind = kind
		if got := Errors(tree); (got == 1) != (kind == api.NError) || got > 1 {
			t.Errorf("P1301: Errors of a node of kind %d: %d", kind, got)
		}
	}
}
