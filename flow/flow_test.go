package flow

import (
	"fmt"
	"math"
	"slices"
	"strings"
	"testing"

	"corrector/api"
	"corrector/arena"
	"corrector/scan"
)

// names are what nodes are called in these tests, by their kinds.
var names = []string{"?", "stream", "doc", "seq", "item", "map", "pair", "", "alias", "list", "dict", "error"}

// codes are what diagnostics are called, by their codes.
var codes = map[int]string{api.DStray: "stray", api.DOpen: "open", api.DDeep: "deep"}

// shown is a node with those in it: of a leaf its bytes, of another one its kids; a ! for Key.
func shown(b string, l []api.Token, t arena.Tree, at int) string {
	n := t.Nodes[at]
	text := names[n.Kind]
	if n.Key {
		text += "!"
	}
	var kids []string
	for _, kid := range n.Kids {
		kids = append(kids, shown(b, l, t, kid))
	}
	switch n.Kind {
	case api.NScalar, api.NAlias, api.NError:
		return text + "<" + b[l[n.From].From:l[n.To-1].To] + ">" + strings.Join(kids, " ")
	}
	return text + "(" + strings.Join(kids, " ") + ")"
}

func shownDiags(b string, d []api.Diag) string {
	out := ""
	for _, x := range d {
		out += fmt.Sprintf(" %s<%s>%d", codes[x.Code], b[x.From:x.To], x.From)
	}
	return out
}

// read is the value with which a text's tokens begin: what it is, the text left behind it, and what is told, in its order.
func read(b string, depth int) string {
	l := scan.Tokens([]byte(b))
	t, node, next, d := Value([]byte(b), l, opened(len(l), 0), 1, 0, len(l), depth)
	if node < 0 {
		return fmt.Sprintf("none %d%s", next, shownDiags(b, d))
	}
	left := ""
	if next < len(l) {
		left = b[l[next].From:]
	}
	return fmt.Sprintf("%s left<%s>%s", shown(b, l, t, node), left, shownDiags(b, d))
}

type sample struct{ b, want string }

func checkRead(t *testing.T, promise string, depth int, l []sample) {
	t.Helper()
	for _, x := range l {
		if got := read(x.b, depth); got != x.want {
			t.Errorf("%s: %q: %q,\nnot %q", promise, x.b, got, x.want)
		}
	}
}

func TestScalars(t *testing.T) {
	for _, depth := range []int{0, 1, 50} {
		checkRead(t, "P1101", depth, []sample{
			{"a", "<a> left<>"},
			{"a b # c", "<a b> left< # c>"},
			{"'a' b", "<'a'> left< b>"},
			{"\"a\"\n", "<\"a\"> left<\n>"},
			{"'a", "<'a> left<>"},
			{"\t a", "<a> left<>"},
			{"a: b", "<a> left<: b>"},
			{"*a", "alias<*a> left<>"},
			{"*a b", "alias<*a> left< b>"},
			{"&a !b x", "<&a !b x> left<>"},
			{"\t!b\t&a  'x' y", "<!b\t&a  'x'> left< y>"},
			{"&a &b &c *x", "alias<&a &b &c *x> left<>"},
			{"!*a", "alias<!*a> left<>"},
			{"a\nb", "<a> left<\nb>"},
			{"&a\nb", "<&a> left<\nb>"},
			{"a\xff", "<a> left<\xff>"},
		})
	}
}

func TestAnchorsAndTagsAlone(t *testing.T) {
	checkRead(t, "P1101", 1, []sample{
		{"&a", "<&a> left<>"},
		{"!", "<!> left<>"},
		{"&a !b \t", "<&a !b> left< \t>"},
		{"\t&a # b", "<&a> left< # b>"},
		{"&a : b", "<&a> left< : b>"},
		{"&a ]", "<&a> left< ]>"},
		{"&a \xff", "<&a> left< \xff>"},
	})
}

func TestNoValue(t *testing.T) {
	checkRead(t, "P1101", 1, []sample{
		{"", "none 0"}, {"\n", "none 0"}, {" a", "none 0"}, {"\t", "none 0"}, {"\t\n a", "none 0"}, {"# a", "none 0"},
		{"- a", "none 0"}, {": a", "none 0"}, {"]", "none 0"}, {"}", "none 0"}, {"--- a", "none 0"}, {"... a", "none 0"}, {"\xffa", "none 0"}, {"\t# a", "none 0"}, {"\t]", "none 0"},
	})
	// A TComma, a TText, and a TBlank ahead that is gone past.
	for _, x := range []struct {
		b  string
		at int
	}{{"[, a", 1}, {"|\n a", 2}, {"- - b", 1}, {"[a , b", 2}} {
		l := scan.Tokens([]byte(x.b))
		if _, node, next, d := Value([]byte(x.b), l, opened(len(l), 0), 1, x.at, len(l), 1); node != -1 || next != x.at || len(d) > 0 {
			t.Errorf("P1101: %q from %d on: %d, %d, %v", x.b, x.at, node, next, d)
		}
	}
}

func TestBlockTexts(t *testing.T) {
	for _, depth := range []int{0, 1} {
		checkRead(t, "P1101", depth, []sample{
			{"|\n a\n b\n", "<|\n a\n b\n> left<>"},
			{">- # c\r\n\r\n  a\r\n", "<>- # c\r\n\r\n  a\r\n> left<>"},
			{"|+ \n a\n---", "<|+ \n a\n> left<--->"},
			{"&a !b |\n  x\n\n...", "<&a !b |\n  x\n\n> left<...>"},
			// no TText
			{"|", "<|> left<>"},
			{"| # c\n", "<|> left< # c\n>"},
			{"|\n---", "<|> left<\n--->"},
			{"&a >\n...", "<&a >> left<\n...>"},
		})
	}
	b := "a: |\nb: >\n  c\n d\ne"
	l := scan.Tokens([]byte(b))
	for _, x := range []struct{ at, end, next int }{{3, len(l), 4}, {8, len(l), 12}, {8, 12, 12}, {8, 11, 11}, {8, 10, 9}, {8, 9, 9}} {
		got, node, next, _ := Value([]byte(b), l, opened(len(l), 0), 1, x.at, x.end, 1)
		if node != 2 || next != x.next || got.Nodes[2].From != x.at || got.Nodes[2].To != x.next {
			t.Errorf("P1101: %v: %d, %d, %v", x, node, next, got)
		}
	}
}

func TestTooDeep(t *testing.T) {
	checkRead(t, "P1101", 0, []sample{
		{"[]", "error<[]> left<> deep<[]>0"},
		{"{a: b} c", "error<{a: b}> left< c> deep<{a: b}>0"},
		{"\t&a !b [c]", "error<&a !b [c]> left<> deep<&a !b [c]>1"},
		// of either kind, those in between together
		{"[a}]", "error<[a}> left<]> deep<[a}>0"},
		{"[[a], {b: [c}]}]", "error<[[a], {b: [c}]}> left<]> deep<[[a], {b: [c}]}>0"},
		{"{[]\n{}\n} a", "error<{[]\n{}\n}> left< a> deep<{[]\n{}\n}>0"},
		// without an end
		{"[", "error<[> left<> deep<[>0"},
		{"[a, [b] # c\n ", "error<[a, [b]> left< # c\n > deep<[a, [b]>0"},
		{"[a\n---\n]", "error<[a> left<\n---\n]> deep<[a>0"},
		{"{[a]\n...\n}", "error<{[a]> left<\n...\n}> deep<{[a]>0"},
	})
	checkRead(t, "P1102", 1, []sample{
		{"[a, [b], {c: d}]", "list(<a> error<[b]> error<{c: d}>) left<> deep<[b]>4 deep<{c: d}>9"},
		{"{a: [b], &x [c]}", "dict(pair!(<a> error<[b]>) pair!(error<&x [c]>)) left<> deep<[b]>4 deep<&x [c]>9"},
		{"[a, [b", "list(<a> error<[b>) left<> deep<[b>4 open<[>0"},
		{"[[a], , [b] c]", "list(error<[a]> error<,> error<[b]> error<c>) left<> deep<[a]>1 stray<,>6 deep<[b]>8 stray<c>12"},
	})
	checkRead(t, "P1102", 2, []sample{
		{"[[[a]], {b: {c}}]", "list(list(error<[a]>) dict(pair!(<b> error<{c}>))) left<> deep<[a]>2 deep<{c}>12"},
		{"[[]]", "list(list()) left<>"},
	})
	// Each one's depth is its own.
	for depth := range 51 {
		b := strings.Repeat("[", depth) + "a" + strings.Repeat("]", depth)
		c := strings.Repeat("{a: ", depth) + "{}" + strings.Repeat("}", depth)
		if got := read(b, depth); got != strings.Repeat("list(", depth)+"<a>"+strings.Repeat(")", depth)+" left<>" {
			t.Errorf("P1102: depth %d: %s", depth, got)
		}
		if got := read(c, depth); got != strings.Repeat("dict(pair!(<a> ", depth)+"error<{}>"+strings.Repeat("))", depth)+" left<> deep<{}>"+fmt.Sprint(4*depth) {
			t.Errorf("P1102: depth %d: %s", depth, got)
		}
	}
}

func TestLists(t *testing.T) {
	checkRead(t, "P1102", 9, []sample{
		{"[a, b: c]", "list(<a> pair!(<b> <c>)) left<>"}, // the chapter's example
		{"[]", "list() left<>"},
		{"[ ] a", "list() left< a>"},
		{"[a]", "list(<a>) left<>"},
		{"[a,b , c]", "list(<a> <b> <c>) left<>"},
		{"[a,]", "list(<a>) left<>"},
		{"[a , ]", "list(<a>) left<>"},
		{"&x !y [a]", "list(<a>) left<>"},
		{"[*a, &b *c, &d, ! 'e']", "list(alias<*a> alias<&b *c> <&d> <! 'e'>) left<>"},
		{"[\n# a\n  b # c\n,\n\n d\r\n\t]\n", "list(<b> <d>) left<\n>"},
		{"[[], [a, []], {}]", "list(list() list(<a> list()) dict()) left<>"},
		{"[[a]\n,\n[b]]", "list(list(<a>) list(<b>)) left<>"},
		{"[a]]", "list(<a>) left<]>"},
	})
}

func TestMaps(t *testing.T) {
	checkRead(t, "P1102", 9, []sample{
		{"{}", "dict() left<>"},
		{"{a}", "dict(pair!(<a>)) left<>"},
		{"{a: b}", "dict(pair!(<a> <b>)) left<>"},
		{"{a: b, c: d,}", "dict(pair!(<a> <b>) pair!(<c> <d>)) left<>"},
		{"&x {a: {b: [c]}}", "dict(pair!(<a> dict(pair!(<b> list(<c>))))) left<>"},
		{"{[a], *b, &c, {}}", "dict(pair!(list(<a>)) pair!(alias<*b>) pair!(<&c>) pair!(dict())) left<>"},
		{"{&x [a], b}", "dict(pair!(list(<a>)) pair!(<b>)) left<>"},
		{"{\n a:\n  b\n,\n c\n}", "dict(pair!(<a> <b>) pair!(<c>)) left<>"},
	})
}

func TestPairs(t *testing.T) {
	checkRead(t, "P1102", 9, []sample{
		{"[a: b]", "list(pair!(<a> <b>)) left<>"},
		{"[a: b, c, d: e]", "list(pair!(<a> <b>) <c> pair!(<d> <e>)) left<>"},
		{"['a':b]", "list(<'a'> error<:b>) left<> stray<:b>4"},
		{"['a':]", "list(pair!(<'a'>)) left<>"},
		{"[\"a\" : 'b']", "list(pair!(<\"a\"> <'b'>)) left<>"},
		{"[*a : b]", "list(pair!(alias<*a> <b>)) left<>"},
		{"[&a !b *c : d]", "list(pair!(alias<&a !b *c> <d>)) left<>"},
		{"[&a : b]", "list(pair!(<&a> <b>)) left<>"},
		{"[&a !b c: d]", "list(pair!(<&a !b c> <d>)) left<>"},
		// what does not count stands between the parts
		{"[a\n: b]", "list(pair!(<a> <b>)) left<>"},
		{"[&a # x\n  !b\n\n c\n # y\n :\n # z\n d]", "list(pair!(<&a # x\n  !b\n\n c> <d>)) left<>"},
		{"[&a\n:\n&b c]", "list(pair!(<&a> <&b c>)) left<>"},
		// without tokens ahead of the colon
		{"[: a]", "list(pair(<a>)) left<>"},
		{"{: a}", "dict(pair(<a>)) left<>"},
		{"[:]", "list(pair()) left<>"},
		{"{: , : }", "dict(pair() pair()) left<>"},
		// without a value
		{"[a:]", "list(pair!(<a>)) left<>"},
		{"[a: , b]", "list(pair!(<a>) <b>) left<>"},
		{"[a: \n]", "list(pair!(<a>)) left<>"},
		{"{a: # b\n}", "dict(pair!(<a>)) left<>"},
		{"[[a: }, b]", "list(list(pair!(<a>) error<}> <b>)) left<> stray<}>5 open<[>0"},
		{"[a: \xff]", "list(pair!(<a>) error<\xff>) left<> stray<\xff>4"},
		{"[a: : b]", "list(pair!(<a>) error<: b>) left<> stray<: b>4"},
		{"{: : }", "dict(pair() error<:>) left<> stray<:>3"},
		{"[a:", "list(pair!(<a>)) left<> open<[>0"},
		{"[a: \n---", "list(pair!(<a>)) left< \n---> open<[>0"},
		// what stands behind anchors and tags of a value is on their row
		{"[a: &b\n c]", "list(pair!(<a> <&b>) error<c>) left<> stray<c>8"},
		{"[a: &b # c\n]", "list(pair!(<a> <&b>)) left<>"},
		// what no key is
		{"['a' 'b': c]", "list(<'a'> error<'b': c>) left<> stray<'b': c>5"},
		{"[[a]: b]", "list(list(<a>) error<: b>) left<> stray<: b>4"},
		{"{{a}: b}", "dict(pair!(dict(pair!(<a>))) error<: b>) left<> stray<: b>4"},
		{"{a: b: c}", "dict(pair!(<a> <b>) error<: c>) left<> stray<: c>5"},
	})
}

func TestWithoutEnd(t *testing.T) {
	checkRead(t, "P1102", 9, []sample{
		{"[", "list() left<> open<[>0"},
		{"{ # a\n\n", "dict() left< # a\n\n> open<{>0"},
		{"&a !b [", "list() left<> open<[>6"},
		{"[a", "list(<a>) left<> open<[>0"},
		{"[a ,\n ", "list(<a>) left<\n > open<[>0"},
		{"{a, b: # c", "dict(pair!(<a>) pair!(<b>)) left< # c> open<{>0"},
		{"[a\n--- ]", "list(<a>) left<\n--- ]> open<[>0"},
		{"[a,\n\n...\n]", "list(<a>) left<\n\n...\n]> open<[>0"},
		{"[\n---", "list() left<\n---> open<[>0"},
		// those in them ahead of them
		{"[[", "list(list()) left<> open<[>1 open<[>0"},
		{"{a: [b, {c # d\n", "dict(pair!(<a> list(<b> dict(pair!(<c>))))) left< # d\n> open<{>8 open<[>4 open<{>0"},
		{"[a, , [b } c", "list(<a> error<,> list(<b> error<}> error<c>)) left<> stray<,>4 stray<}>9 stray<c>11 open<[>6 open<[>0"},
		{"[[a\n---\n]]", "list(list(<a>)) left<\n---\n]]> open<[>1 open<[>0"},
		{"[{a]", "list(dict(pair!(<a>) error<]>)) left<> stray<]>3 open<{>1 open<[>0"},
		// errors have been read, too
		{"['a' 'c' \xff # d", "list(<'a'> error<'c' \xff>) left< # d> stray<'c' \xff>5 open<[>0"},
	})
}

func TestStray(t *testing.T) {
	checkRead(t, "P1102", 9, []sample{
		// the other end bracket
		{"[}]", "list(error<}>) left<> stray<}>1"},
		{"{a]}", "dict(pair!(<a>) error<]>) left<> stray<]>2"},
		{"[a, }}]", "list(<a> error<}> error<}>) left<> stray<}>4 stray<}>5"},
		// (scan holds no bracket open behind as many ends as beginnings)
		{"[a}, b]", "list(<a> error<}> error<, b]>) left<> stray<}>2 stray<, b]>3 open<[>0"},
		{"[[a}, b]", "list(list(<a> error<}> <b>)) left<> stray<}>3 open<[>0"},
		{"{{a]: b, c}", "dict(pair!(dict(pair!(<a>) error<]> error<: b> pair!(<c>)))) left<> stray<]>3 stray<: b>4 open<{>0"},
		{"[['a'} 'b', c]", "list(list(<'a'> error<}> error<'b'> <c>)) left<> stray<}>5 stray<'b'>7 open<[>0"},
		{"[[[a, }}b]", "list(list(list(<a> error<}> error<}> <b>))) left<> stray<}>6 stray<}>7 open<[>1 open<[>0"},
		{"[[}, a]", "list(list(error<}> error<,> <a>)) left<> stray<}>2 stray<,>3 open<[>0"},
		// commas
		{"[,]", "list(error<,>) left<> stray<,>1"},
		{"[a,,b]", "list(<a> error<,> <b>) left<> stray<,>3"},
		{"{a: b,\n,, c}", "dict(pair!(<a> <b>) error<,> error<,> pair!(<c>)) left<> stray<,>7 stray<,>8"},
		{"[a, \xff, b]", "list(<a> error<\xff> error<,> <b>) left<> stray<\xff>4 stray<,>5"},
		{"[a: , b]", "list(pair!(<a>) <b>) left<>"},
		{"[:, b]", "list(pair() <b>) left<>"},
		{"[*a, [], {}, &b, c]", "list(alias<*a> list() dict() <&b> <c>) left<>"},
		// where a value stands already
		{"['a' 'b' c, d]", "list(<'a'> error<'b' c> <d>) left<> stray<'b' c>5"},
		{"['a' 'b' # c\n]", "list(<'a'> error<'b'>) left<> stray<'b'>5"},
		{"['a'\n 'b'\n 'c'\n, d]", "list(<'a'> error<'b'\n 'c'> <d>) left<> stray<'b'\n 'c'>6"},
		{"[a [b, c] d, e]", "list(<a> error<[b, c] d> <e>) left<> stray<[b, c] d>3"},
		{"[[a] {b, [c}, d] e, f]", "list(list(<a>) error<{b, [c}, d] e> <f>) left<> stray<{b, [c}, d] e>5"},
		{"[[a] {b, [c}, d} e, f]", "list(list(<a>) error<{b, [c}, d} e> <f>) left<> stray<{b, [c}, d} e>5"},
		{"[['a' [b, {c, d}] e } f, g]", "list(list(<'a'> error<[b, {c, d}] e> error<}> error<f> <g>)) left<> stray<[b, {c, d}] e>6 stray<}>20 stray<f>22 open<[>0"},
		{"[['a' 'b'} c, d]", "list(list(<'a'> error<'b'> error<}> error<c> <d>)) left<> stray<'b'>6 stray<}>9 stray<c>11 open<[>0"},
		{"{a: b c: d: e, f}", "dict(pair!(<a> <b c>) error<: d: e> pair!(<f>)) left<> stray<: d: e>7"},
		{"['a' 'b'\n---", "list(<'a'> error<'b'>) left<\n---> stray<'b'>5 open<[>0"},
		{"['a' ['b' # c\n...", "list(<'a'> error<['b'>) left< # c\n...> stray<['b'>5 open<[>0"},
		{"['a' [b, # c\n", "list(<'a'> error<[b,>) left< # c\n> stray<[b,>5 open<[>0"},
		// what is no value
		{"[\xff]", "list(error<\xff>) left<> stray<\xff>1"},
		{"[\xff\xff a]", "list(error<\xff> error<\xff> <a>) left<> stray<\xff>1 stray<\xff>2"},
		{"{\xff}", "dict(error<\xff>) left<> stray<\xff>1"},
		{"{\xff a: b}", "dict(error<\xff> pair!(<a> <b>)) left<> stray<\xff>1"},
		{"{\xff: b}", "dict(error<\xff> pair(<b>)) left<> stray<\xff>1"},
		{"[&a \xff, b]", "list(<&a> error<\xff> <b>) left<> stray<\xff>4"},
	})
	// Brackets of which scan holds fewer open than there are: dashes, block texts.
	checkRead(t, "P1102", 9, []sample{
		{"[}\n- 'a'\n]", "list(error<}> error<-> <'a'>) left<> stray<}>1 stray<->3"},
		{"{]\n- a: |\n   b\n}", "dict(error<]> error<-> pair!(<a> <|\n   b\n>)) left<> stray<]>1 stray<->3"},
		{"[}\n'a' |\n b\n]", "list(error<}> <'a'> error<|\n b\n>) left<> stray<}>1 stray<|\n b\n>7"},
		{"[}\n'a' |\n b\n,", "list(error<}> <'a'> error<|\n b\n,>) left<> stray<}>1 stray<|\n b\n,>7 open<[>0"},
	})
}

// between is what may stand between any two tokens within brackets.
func (d *die) between() string {
	return []string{"", " ", "\n", "\n  ", " # c\n", "\t\r\n\r\n  "}[d.of(6)]
}

// writtenLeaf is a scalar or an alias thrown, as a text that says it soundly, and as it is to be shown.
func (d *die) writtenLeaf() (text, want string) {
	text = []string{"", "", "", "&a ", "!b &c\t"}[d.of(5)] + []string{"a", "b c", "'d, ]'", "\"\\\"}\"", "-1", "*e"}[d.of(6)]
	if strings.HasSuffix(text, "*e") {
		return text, "alias<" + text + ">"
	}
	return text, "<" + text + ">"
}

// writtenValue is a value thrown, likewise.
func (d *die) writtenValue(depth int) (text, want string) {
	if depth == 0 || d.of(4) == 0 {
		return d.writtenLeaf()
	}
	isMap := d.of(2) == 0
	text, want = "[", "list("
	if isMap {
		text, want = "{", "dict("
	}
	for i := range d.of(4) {
		if i > 0 {
			text, want = text+",", want+" "
		}
		value, shown := d.writtenValue(depth - 1)
		if d.of(2) == 0 {
			key, shownKey := d.writtenLeaf()
			value, shown = key+d.between()+" :"+d.between()+" "+value, "pair!("+shownKey+" "+shown+")"
		} else if isMap {
			shown = "pair!(" + shown + ")"
		}
		text, want = text+d.between()+value+d.between(), want+shown
	}
	if isMap {
		return text + d.between() + "}", want + ")"
	}
	return "&x " + text + d.between() + "]", want + ")"
}

// What was written soundly is read as it was.
func TestWrittenValues(t *testing.T) {
	d := die(11)
	long := 0
	for range 20000 {
		depth := d.of(6)
		text, want := d.writtenValue(depth)
		// Behind it stands what is none of it.
		if got := read(text+"\n]", depth); got != want+" left<\n]>" {
			t.Fatalf("P1102: depth %d: %q: %q,\nnot %q", depth, text, got, want)
		}
		if len(text) > 100 {
			long++
		}
	}
	if long < 500 {
		t.Errorf("only %d long ones", long)
	}
}

// amid is a tree of so many tokens in which nodes stand ahead of a value at 3, which is put into node 3.
func amid(tokens int) arena.Tree {
	tree := arena.New(tokens)
	for _, n := range []api.Node{{Up: 0, Kind: api.NDoc}, {Up: 1, Kind: api.NMap}, {Up: 2, Kind: api.NPair, To: 2}, {Up: 3, Kind: api.NScalar, To: 1}} {
		tree, _ = arena.Add(tree, n.Up, n.Kind, n.From, n.To)
	}
	tree.Nodes[3].Key = true
	return tree
}

// The value is put into up, whatever stands ahead there, and all that it is in reach as far.
func TestIntoATree(t *testing.T) {
	b := "a: [b, {c: d}]\n"
	l := scan.Tokens([]byte(b))
	tree, node, next, d := Value([]byte(b), l, amid(len(l)), 3, 2, len(l), 9)
	want := "[{1 0 15 -1 [1] false} {2 0 14 0 [2] false} {5 0 14 1 [3] false} {6 0 14 2 [4 5] true} {7 0 1 3 [] false} " +
		"{9 3 14 3 [6 7] false} {7 4 5 5 [] false} {10 7 13 5 [8] false} {6 8 12 7 [9 10] true} {7 8 9 8 [] false} {7 11 12 8 [] false}]"
	if got := fmt.Sprint(tree.Nodes); got != want || node != 5 || next != 14 || len(d) > 0 {
		t.Errorf("P1101: %d, %d, %v,\n%s, not\n%s", node, next, d, got, want)
	}
}

// What stands at or behind end is not there.
func TestUpToEnd(t *testing.T) {
	b := "&a [b, 'c' d, e: {f}]"
	l := scan.Tokens([]byte(b))
	for _, x := range []struct {
		end, next int
		want      string
	}{
		{0, 0, "none"},
		{1, 1, "<&a>"},
		{2, 1, "<&a>"},
		{3, 3, "list() open<[>3"},
		{4, 4, "list(<b>) open<[>3"},
		{5, 5, "list(<b>) open<[>3"},
		{6, 5, "list(<b>) open<[>3"},
		{7, 7, "list(<b> <'c'>) open<[>3"},
		{9, 9, "list(<b> <'c'> error<d>) stray<d>11 open<[>3"},
		{12, 12, "list(<b> <'c'> error<d> <e>) stray<d>11 open<[>3"},
		{13, 13, "list(<b> <'c'> error<d> pair!(<e>)) stray<d>11 open<[>3"},
		{15, 15, "list(<b> <'c'> error<d> pair!(<e> dict())) stray<d>11 open<{>17 open<[>3"},
		{17, 17, "list(<b> <'c'> error<d> pair!(<e> dict(pair!(<f>)))) stray<d>11 open<[>3"},
		{18, 18, "list(<b> <'c'> error<d> pair!(<e> dict(pair!(<f>)))) stray<d>11"},
	} {
		tree, node, next, d := Value([]byte(b), l, opened(len(l), 0), 1, 0, x.end, 9)
		got := "none"
		if node >= 0 {
			got = shown(b, l, tree, node)
		}
		if got += shownDiags(b, d); got != x.want || next != x.next {
			t.Errorf("P1102: up to %d: %q, %d, not %q, %d", x.end, got, next, x.want, x.next)
		}
	}
}

// P8, P1: where it may not be read, there is none.
func TestNumbersThatMayNotBe(t *testing.T) {
	b := []byte("a: [b]")
	l := scan.Tokens(b)
	tree := amid(len(l))
	for _, x := range []struct{ up, at, end, depth int }{
		{3, -1, 6, 9}, {3, math.MinInt, 6, 9}, {3, 7, 6, 9}, {3, math.MaxInt, 6, 9}, {3, 7, 7, 9}, {3, 4, 3, 9},
		{3, 3, 7, 9}, {3, 3, math.MaxInt, 9}, {3, 3, -1, 9}, {3, 3, math.MinInt, 9}, {3, math.MaxInt, math.MaxInt, 9}, {3, math.MinInt, math.MinInt, 9},
		{3, 3, 6, -1}, {3, 3, 6, 51}, {3, 3, 6, math.MinInt}, {3, 3, 6, math.MaxInt},
		{-1, 3, 6, 9}, {5, 3, 6, 9}, {math.MinInt, 3, 6, 9}, {math.MaxInt, 3, 6, 9},
		// up begins behind it, or ends there
		{3, 0, 6, 9}, {4, 0, 0, 9},
	} {
		got, node, next, d := Value(b, l, tree, x.up, x.at, x.end, x.depth)
		if !arena.Same(got, tree) || node != -1 || next != x.at || len(d) > 0 {
			t.Errorf("P8: %v: %d, %d, %v, %v", x, node, next, d, got)
		}
	}
	if got, node, next, d := Value(b, l, arena.New(4), 0, 3, 6, 9); len(got.Nodes) != 1 || node != -1 || next != 3 || len(d) > 0 {
		t.Errorf("P8: a tree of fewer tokens: %d, %d, %v, %v", node, next, d, got)
	}
}

func TestTokensAndTreesThatAreNone(t *testing.T) {
	numbers := []int{math.MinInt, -2, -1, 0, 1, 2, 3, 4, 5, 50, math.MaxInt}
	kinds := []int{math.MinInt, -1, 0, 23, math.MaxInt}
	for kind := range api.TBad + 1 {
		kinds = append(kinds, kind, kind)
	}
	d := die(8)
	one := func() int { return numbers[d.of(len(numbers))] }
	for range 40000 {
		var tree arena.Tree
		for range d.of(5) {
			n := api.Node{Kind: one(), From: one(), To: one(), Up: one(), Key: d.of(2) == 0}
			for range d.of(4) {
				n.Kids = append(n.Kids, one())
			}
			tree.Nodes = append(tree.Nodes, n)
		}
		var l []api.Token
		for range d.of(12) {
			l = append(l, api.Token{Kind: kinds[d.of(len(kinds))], From: one(), To: one()})
		}
		before := fmt.Sprint(tree, l)
		for range 4 {
			Value(nil, l, tree, one(), one(), one(), one())
			Value(nil, l, opened(len(l), 0), 1, 0, len(l), d.of(4))
			Value([]byte("["), l, tree, d.of(5), 0, len(l), d.of(4))
		}
		if fmt.Sprint(tree, l) != before {
			t.Fatalf("P2: %s changed", before)
		}
	}
}

// roomy is a tree like t, all of whose lists have spare room, with something in it.
func roomy(t arena.Tree) arena.Tree {
	n := arena.Tree{Nodes: append(slices.Clone(t.Nodes), make([]api.Node, 30)...)[:len(t.Nodes)]}
	for i := range n.Nodes {
		n.Nodes[i].Kids = append(slices.Clone(n.Nodes[i].Kids), 77, 78, 79)[:len(n.Nodes[i].Kids)]
	}
	return n
}

// wholly is all that a tree has, its spare room too.
func wholly(t arena.Tree) string {
	out := fmt.Sprint(t.Nodes[:cap(t.Nodes)])
	for _, n := range t.Nodes {
		out += fmt.Sprint(n.Kids[:cap(n.Kids)])
	}
	return out
}

var manyTexts = []string{
	"a: b", "a: &x !y", "a: - b", "a: ", "a: *b", "a: |\n  b\n", "a: []", "a: [b, c: d, {e: f, [g, h, i, j, k]}]", "a: [b c: [}, , \xff", "a: [{[{[b]}]}]", "a: [[], [], {}, {}, [[]]]",
}

// P2: what is handed in, its spare room too, stays as it is, and whatever is done to an answer.
func TestWhatIsHandedInIsNotChanged(t *testing.T) {
	for _, text := range manyTexts {
		b := []byte(text)
		room := scan.Tokens(b)
		all := slices.Clone(room)
		for end := range len(room) + 1 {
			for _, up := range []int{3, 9} {
				tree := roomy(amid(len(room)))
				before := wholly(tree)
				got, _, _, d := Value(b, room[:end], tree, up, 2, end, 3)
				for _, n := range got.Nodes {
					clear(n.Kids[:cap(n.Kids)])
				}
				clear(got.Nodes[:cap(got.Nodes)])
				clear(d[:cap(d)])
				if wholly(tree) != before || !slices.Equal(room, all) || string(b) != text {
					t.Fatalf("P2: %q up to %d: changed", text, end)
				}
			}
		}
	}
}

// P2: no two lists of an answer share any memory, their spare room neither.
func TestListsShareNothing(t *testing.T) {
	for _, text := range manyTexts {
		b := []byte(text)
		l := scan.Tokens(b)
		got, _, _, _ := Value(b, l, roomy(amid(len(l))), 3, 2, len(l), 4)
		want := slices.Clone(got.Nodes)
		for i := range want {
			want[i].Kids = slices.Clone(want[i].Kids)
		}
		for i := range want {
			for range 5 {
				got.Nodes[i].Kids = append(got.Nodes[i].Kids, -i)
				want[i].Kids = append(want[i].Kids, -i)
			}
			for j := range want[i].Kids {
				got.Nodes[i].Kids[j]--
				want[i].Kids[j]--
			}
			if !arena.Same(got, arena.Tree{Nodes: want}) {
				t.Fatalf("P2: %q: node %d: %v, not %v", text, i, got.Nodes, want)
			}
		}
	}
}

// P3: nothing is kept from call to call.
func TestAnswersAreTheSameAgain(t *testing.T) {
	was := map[string]string{}
	for range 3 {
		for _, text := range manyTexts {
			for depth := range 4 {
				b := []byte(text)
				l := scan.Tokens(b)
				tree, node, next, d := Value(b, l, amid(len(l)), 3, 2, len(l), depth)
				name, got := fmt.Sprint(depth, text), fmt.Sprint(tree, node, next, d)
				if was[name] != "" && was[name] != got {
					t.Fatalf("P3: %q: %s, then %s", text, was[name], got)
				}
				was[name] = got
			}
		}
	}
}

// P1: all ends in time, however long it is; what is told and made is of the length.
func TestLongestTexts(t *testing.T) {
	for _, piece := range []string{
		"[", "{", "[]", "[],", "{},", "a,", ",", ":", ": ", "a: ", "a: ,", "a: [", "{a: ", "}", "]", "[}", "\n", " #\n", "&a ", "&a\n", "!", "*a ", "'a' ", "\xff", "[a\n,", "'a'[", "\n- ", "|\n", "&a\n,",
	} {
		for _, head := range []string{"[", "{", "[a [", strings.Repeat("[", 50), strings.Repeat("{a: ", 49)} {
			b := []byte(head + strings.Repeat(piece, (api.MaxText-len(head))/len(piece)))
			l := scan.Tokens(b)
			for _, depth := range []int{0, 1, 50} {
				tree, node, next, d := Value(b, l, opened(len(l), 0), 1, 0, len(l), depth)
				if node != 2 || next == 0 || next != tree.Nodes[node].To || !arena.Check(tree, len(l)) || len(d) > len(l) || len(tree.Nodes) > 2*len(l)+2 {
					t.Errorf("P1103: many %q behind %q: %d, %d of %d, %d nodes", piece, head, node, next, len(l), len(tree.Nodes))
				}
			}
		}
	}
}

// P1: lists have no length of their own.
func TestLongLists(t *testing.T) {
	const n = 1 << 15
	for kind := range api.TBad + 2 {
		l := make([]api.Token, n)
		for i := range l {
			l[i] = api.Token{Kind: kind, From: i, To: i + 1}
		}
		for _, head := range []int{api.TOpenSeq, api.TOpenMap, api.TAnchor, api.THead} {
			l[0].Kind = head
			tree, node, next, _ := Value(nil, l, opened(n, 0), 1, 0, n, 50)
			if node != 2 || next < 1 || !arena.Check(tree, n) {
				t.Errorf("P1103: many of kind %d: %d, %d", kind, node, next)
			}
		}
	}
}
