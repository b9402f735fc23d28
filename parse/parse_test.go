package parse

import (
	"fmt"
	"math"
	"slices"
	"strings"
	"testing"

	"corrector/api"
	"corrector/arena"
)

// names are what nodes are called in these tests, by their kinds.
var names = []string{"?", "stream", "doc", "seq", "item", "map", "pair", "", "alias", "list", "dict", "error"}

// codes are what diagnostics are called, by their codes.
var codes = []string{"?", "byte", "tab", "quote", "escape", "mixed", "indent", "second", "stray", "open", "deep"}

// shown is a node with those in it: of a leaf its bytes, of another one its kids; a ! for Key.
func shown(b string, l []api.Token, t arena.Tree, at int) string {
	n := t.Nodes[at]
	text := names[n.Kind]
	if n.Key {
		text += "!"
	}
	var kids []string
	for _, kid := range n.Kids {
		kids = append(kids, shown(b, l, t, kid))
	}
	switch n.Kind {
	case api.NScalar, api.NAlias, api.NError:
		return text + "<" + b[l[n.From].From:l[n.To-1].To] + ">" + strings.Join(kids, " ")
	}
	return text + "(" + strings.Join(kids, " ") + ")"
}

// read is what is in a text, node by node, and what is told of it, in its order.
func read(b string, depth int) string {
	l, t, d := Tree([]byte(b), depth)
	if len(t.Nodes) == 0 {
		return "none"
	}
	out := ""
	for _, kid := range t.Nodes[0].Kids {
		out += " " + shown(b, l, t, kid)
	}
	for _, x := range d {
		out += fmt.Sprintf(" %s<%s>%d", codes[x.Code], b[x.From:x.To], x.From)
	}
	return strings.TrimPrefix(out, " ")
}

type sample struct{ b, want string }

func checkRead(t *testing.T, promise string, depth int, l []sample) {
	t.Helper()
	for _, x := range l {
		if got := read(x.b, depth); got != x.want {
			t.Errorf("%s: %q: %q,\nnot %q", promise, x.b, got, x.want)
		}
	}
}

func TestOrdinaryTexts(t *testing.T) {
	checkRead(t, "P1201", 50, []sample{
		{"a: 1\nb: 2", "doc(map(pair!(<a> <1>) pair!(<b> <2>)))"}, // the chapter's example
		{"", ""}, {"\n", ""}, {"# a\n\n  # b", ""}, {" \t", ""},
		{"a", "doc(<a>)"}, {"\n # c\n  a # d\n", "doc(<a>)"}, {"&x !y 'a'", "doc(<&x !y 'a'>)"}, {"*a", "doc(alias<*a>)"}, {"|\n a\n", "doc(<|\n a\n>)"},
		{"[a, b: c]\n", "doc(list(<a> pair!(<b> <c>)))"}, {"{a: b}", "doc(dict(pair!(<a> <b>)))"}, {"[a,\n# b\n\nc\n]\n", "doc(list(<a> <c>))"},
		{"- a\n- b\n", "doc(seq(item(<a>) item(<b>)))"}, {"-\n-", "doc(seq(item() item()))"}, {"- # a\n\n-  b", "doc(seq(item() item(<b>)))"},
		{"a:\nb: c\n\n# d\ne:", "doc(map(pair!(<a>) pair!(<b> <c>) pair!(<e>)))"},
		{"a:\n  b: c\n  d:\n    e: f\ng: h", "doc(map(pair!(<a> map(pair!(<b> <c>) pair!(<d> map(pair!(<e> <f>))))) pair!(<g> <h>)))"},
		{"- - a\n  - b\n- c\n-\n  - d", "doc(seq(item(seq(item(<a>) item(<b>))) item(<c>) item(seq(item(<d>)))))"},
		{"- a: b\n  c: d\n- - e: f\n    g:", "doc(seq(item(map(pair!(<a> <b>) pair!(<c> <d>))) item(seq(item(map(pair!(<e> <f>) pair!(<g>)))))))"},
		{"a:\n- b\n- c\nd:\n- e", "doc(map(pair!(<a> seq(item(<b>) item(<c>))) pair!(<d> seq(item(<e>)))))"},
		{"- a:\n  - b\n  c:", "doc(seq(item(map(pair!(<a> seq(item(<b>))) pair!(<c>)))))"},
		{"a:\n  b\nc:\n # d\n\n    [e,\nf]", "doc(map(pair!(<a> <b>) pair!(<c> list(<e> <f>))))"},
		{"a: |\n  b\n\n c\nd: >-\n e", "doc(map(pair!(<a> <|\n  b\n\n c\n>) pair!(<d> <>-\n e>)))"},
		{"- |\n a\n-\n  |\n  b", "doc(seq(item(<|\n a\n>) item(<|\n  b>)))"},
		{"a: {b: c,\nd: e\n}\nf: g", "doc(map(pair!(<a> dict(pair!(<b> <c>) pair!(<d> <e>))) pair!(<f> <g>)))"},
		{"   a:\n     - b\n   c: d", "doc(map(pair!(<a> seq(item(<b>))) pair!(<c> <d>)))"},
		{"- &a\n- !b\n- *c\n- &d *e", "doc(seq(item(<&a>) item(<!b>) item(alias<*c>) item(alias<&d *e>)))"},
		{"a\r\n", "doc(<a>)"}, {"- a\r- b\r\n- c", "doc(seq(item(<a>) item(<b>) item(<c>)))"},
		{"-   - a\n    - b", "doc(seq(item(seq(item(<a>) item(<b>)))))"}, {"-\ta: b\n  c: d", "doc(seq(item(map(pair!(<a> <b>) pair!(<c> <d>)))))"},
	})
}

func TestKeys(t *testing.T) {
	checkRead(t, "P1202", 50, []sample{
		{": a", "doc(map(pair(<a>)))"}, {":", "doc(map(pair()))"}, {"a : b", "doc(map(pair!(<a> <b>)))"}, {"a\t : b", "doc(map(pair!(<a> <b>)))"},
		{"'a': 1\n\"b\": 2\nc d: 3", "doc(map(pair!(<'a'> <1>) pair!(<\"b\"> <2>) pair!(<c d> <3>)))"},
		{"*a : 1", "doc(map(pair!(alias<*a> <1>)))"}, {"&b *a : 1", "doc(map(pair!(alias<&b *a> <1>)))"},
		{"&a !b c: 1", "doc(map(pair!(<&a !b c> <1>)))"}, {"&a : 1", "doc(map(pair!(<&a> <1>)))"}, {"&a !b  : 1", "doc(map(pair!(<&a !b> <1>)))"},
		{"- : a\n  &b : c", "doc(seq(item(map(pair(<a>) pair!(<&b> <c>)))))"},
		{"a: *b\n*b : a", "doc(map(pair!(<a> alias<*b>) pair!(alias<*b> <a>)))"},
	})
}

func TestDocuments(t *testing.T) {
	checkRead(t, "P1201", 50, []sample{
		{"---", "doc()"}, {"---\n---\n--- # a\n", "doc() doc() doc()"}, {"--- a\n--- b", "doc(<a>) doc(<b>)"}, {"---\na", "doc(<a>)"},
		{"a\n---\nb: c\n---\n- d", "doc(<a>) doc(map(pair!(<b> <c>))) doc(seq(item(<d>)))"}, {"---\ta", "doc(<a>)"}, {"--- &a !b", "doc(<&a !b>)"},
		{"--- |\n a\n--- >\nb\n...", "doc(<|\n a\n>) doc(<>> error<b>) second<b>15"},
		{"--- >\n...\nb", "doc(<>>) doc(<b>)"},
		{"--- [a,\nb] # c\n--- {d: e}", "doc(list(<a> <b>)) doc(dict(pair!(<d> <e>)))"},
		{"...", ""}, {"...\n...\n... # a", ""}, {"a\n...\n...\nb\n...", "doc(<a>) doc(<b>)"}, {"---\n...\n- a", "doc() doc(seq(item(<a>)))"},
		{"a:\n...\nb: c", "doc(map(pair!(<a>))) doc(map(pair!(<b> <c>)))"}, {"- a\n---\n- b", "doc(seq(item(<a>))) doc(seq(item(<b>)))"},
		{"a:\n---\n  b: c", "doc(map(pair!(<a>))) doc(map(pair!(<b> <c>)))"},
		// no values go on behind a mark
		{"a: [b\n---\nc]", "doc(map(pair!(<a> list(<b>)))) doc(<c]>) open<[>3"}, {"--- {a\n...\n}", "doc(dict(pair!(<a>))) doc(error<}>) open<{>4 stray<}>11"},
		{"a: [b\n---\n[c", "doc(map(pair!(<a> list(<b>)))) doc(list(<c>)) open<[>3 open<[>10"},
	})
}

// reaching is a node with those in it: its tokens, from one on to ahead of another one.
func reaching(t arena.Tree, at int) string {
	n := t.Nodes[at]
	text := fmt.Sprintf("%s %d-%d", names[n.Kind], n.From, n.To)
	if n.Kind == api.NScalar {
		text = fmt.Sprintf("%d-%d", n.From, n.To)
	}
	var kids []string
	for _, kid := range n.Kids {
		kids = append(kids, reaching(t, kid))
	}
	if len(kids) > 0 {
		text += "(" + strings.Join(kids, ", ") + ")"
	}
	return text
}

// Nodes reach over all that is in them; documents over their marks, too.
func TestNodesReach(t *testing.T) {
	for b, want := range map[string]string{
		"- a: 1\n- b\n":             "stream 0-11(doc 0-10(seq 0-10(item 0-6(map 2-6(pair 2-6(2-3, 5-6))), item 7-10(9-10))))",
		" a : # b\n":                "stream 0-7(doc 1-4(map 1-4(pair 1-4(1-2))))",
		" &a !b c\t: d":             "stream 0-10(doc 1-10(map 1-10(pair 1-10(1-6, 9-10))))",
		"\n--- # a\n\n...\n":        "stream 0-8(doc 1-7)",
		"a\n\n... b # c\n":          "stream 0-9(doc 0-4(0-1), error 5-6)",
		"---\n---\n-\n":             "stream 0-6(doc 0-1, doc 2-5(seq 4-5(item 4-5)))",
		"--- a # b\n":               "stream 0-6(doc 0-3(2-3))",
		"x\n 'b' c # d\n":           "stream 0-9(doc 0-6(0-1, error 3-6))",
		"- - [{a: b}] c":            "stream 0-14(doc 0-14(seq 0-14(item 0-14(seq 2-14(item 2-14(list 4-12(dict 5-11(pair 6-10(6-7, 9-10))), error 13-14))))))",
		"a: |\n  b\n\n  c\n# d\ne:": "stream 0-12(doc 0-12(map 0-12(pair 0-8(0-1, 3-8), pair 10-12(10-11))))",
		"a:\n  -\n  -\nb: 1":        "stream 0-13(doc 0-13(map 0-13(pair 0-8(0-1, seq 4-8(item 4-5, item 7-8)), pair 9-13(9-10, 12-13))))",
	} {
		_, tree, _ := Tree([]byte(b), 9)
		if got := reaching(tree, 0); got != want {
			t.Errorf("P1201: %q:\n%s, not\n%s", b, got, want)
		}
	}
}

func TestSecond(t *testing.T) {
	checkRead(t, "P1201", 50, []sample{
		{"a\nb", "doc(<a> error<b>) second<b>2"}, {"a\n  b # c\nd", "doc(<a> error<b> error<d>) second<b>4 second<d>10"}, {"[a]\n'b' c", "doc(list(<a>) error<'b' c>) second<'b' c>4"},
		{"a: 1\nb", "doc(map(pair!(<a> <1>) error<b>)) second<b>5"}, {"a: 1\n  b", "doc(map(pair!(<a> <1>) error<b>)) second<b>7"},
		{"- a\n  b\n- c", "doc(seq(item(<a>) error<b> item(<c>))) second<b>6"}, {"-\n  a\n  b", "doc(seq(item(<a>) error<b>)) second<b>8"},
		{"- - a\n b", "doc(seq(item(seq(item(<a>) error<b>)))) second<b>7"}, {"--- a\nb", "doc(<a> error<b>) second<b>6"}, {"--- a\n...\nb", "doc(<a>) doc(<b>)"},
		// into the innermost one's cur, which has none; another one further in may be its value yet
		{"a:\n  b:\n c\n   d", "doc(map(pair!(<a> map(pair!(<b> error<c> <d>))))) second<c>9"},
		{"a:\n  b:\n  c\n   d: e", "doc(map(pair!(<a> map(pair!(<b> error<c> map(pair!(<d> <e>))))))) second<c>10"},
		{"a:\nb\n- c\nd:", "doc(map(pair!(<a> error<b> seq(item(<c>))) pair!(<d>))) second<b>3"}, {"-\na", "doc(seq(item(error<a>))) second<a>2"},
		// what a value of one row goes on with is stray, row by row
		{"a\n[b\n\n c\n# d\n]", "doc(<a> error<[b> error<c> error<]>) second<[b>2 stray<c>7 stray<]>13"},
		{"a\n|\n b\n\n  c\nd", "doc(<a> error<|> error< b\n> error<\n> error<  c\n> error<d>) second<|>2 stray< b\n>4 stray<\n>7 stray<  c\n>8 stray<d>12"},
		// an entry where something stands that is no collection
		{"a\nb: c", "doc(<a> error<b: c>) second<b: c>2"}, {"a\n- b # c", "doc(<a> error<- b>) second<- b>2"}, {"--- a\n - b: c", "doc(<a> error<- b: c>) second<- b: c>7"},
		{"  a: 1\nb: 2", "doc(map(pair!(<a> <1>) error<b: 2>)) second<b: 2>7"}, {"  - a\n - b", "doc(seq(item(<a>) error<- b>)) second<- b>7"}, {" a:\nb: 2\n - c", "doc(map(pair!(<a> error<b: 2> seq(item(<c>))))) second<b: 2>4"},
	})
}

func TestPlaces(t *testing.T) {
	checkRead(t, "P1202", 50, []sample{
		// DMixed: one of the other kind at its column
		{"a: 1\n- b", "doc(map(pair!(<a> <1>) error<- b>)) mixed<- b>5"}, {"- a\nb: 1", "doc(seq(item(<a>) error<b: 1>)) mixed<b: 1>4"}, {"-\na:", "doc(seq(item(error<a:>))) mixed<a:>2"},
		{"a: 1\n- b\nc: 2", "doc(map(pair!(<a> <1>) error<- b> pair!(<c> <2>))) mixed<- b>5"}, {"a:\n  b\n- c", "doc(map(pair!(<a> <b>) error<- c>)) mixed<- c>7"},
		{"- - a\n  b:", "doc(seq(item(seq(item(<a>) error<b:>)))) mixed<b:>8"}, {"- a: b\n  - c", "doc(seq(item(map(pair!(<a> <b>) error<- c>)))) mixed<- c>9"},
		{"a:\n  - b\n- c", "doc(map(pair!(<a> seq(item(<b>) error<- c>)))) mixed<- c>9"}, {"a:\n - b\n c:", "doc(map(pair!(<a> seq(item(<b>) error<c:>)))) mixed<c:>9"},
		{"-\n  a:\n  - b\nc:", "doc(seq(item(map(pair!(<a> seq(item(<b>) error<c:>)))))) mixed<c:>13"},
		// a key behind a list that stands at its map's column
		{"a:\n- b: c\n  d:\nb:", "doc(map(pair!(<a> seq(item(map(pair!(<b> <c>) pair!(<d>))))) pair!(<b>)))"}, {"a:\n-\nb:\n-", "doc(map(pair!(<a> seq(item())) pair!(<b> seq(item()))))"},
		{"- a:\n  - b\n  c:\n- d", "doc(seq(item(map(pair!(<a> seq(item(<b>))) pair!(<c>))) item(<d>)))"}, {"a:\n- b\n- c\n - d", "doc(map(pair!(<a> seq(item(<b>) item(<c>) error<- d>)))) indent<- d>12"},
		// DIndent
		{"a: 1\n  b: 2", "doc(map(pair!(<a> <1>) error<b: 2>)) indent<b: 2>7"}, {"- a\n  - b", "doc(seq(item(<a>) error<- b>)) indent<- b>6"}, {"a: [b]\n - c", "doc(map(pair!(<a> list(<b>)) error<- c>)) indent<- c>8"},
		{"a:\n    b: c\n  d: e\n    f: g", "doc(map(pair!(<a> map(pair!(<b> <c>) error<d: e> pair!(<f> <g>))))) indent<d: e>14"}, {"a:\n    b:\n  - c", "doc(map(pair!(<a> map(pair!(<b> error<- c>))))) indent<- c>12"},
		{"-  a: b\n - c", "doc(seq(item(map(pair!(<a> <b>) error<- c>)))) indent<- c>9"},
		// into the cur that the row's own entries made: an error ends the row
		{"- a\n- - b\n  c: d\n- e", "doc(seq(item(<a>) item(seq(item(<b>) error<c: d>)) item(<e>))) mixed<c: d>12"},
		{"a: 1\n- b: [c\n d]\ne:", "doc(map(pair!(<a> <1>) error<- b: [c> error<d]> pair!(<e>))) mixed<- b: [c>5 stray<d]>14"},
		{"a: 1\n b: |\n   c\n   d\ne:", "doc(map(pair!(<a> <1>) error<b: |> error<   c\n> error<   d\n> pair!(<e>))) indent<b: |>6 stray<   c\n>11 stray<   d\n>16"},
		{"a:\n  b: |\n   c\n - |\n   d", "doc(map(pair!(<a> map(pair!(<b> <|\n   c\n>) error<- |> error<   d>)))) indent<- |>16 stray<   d>20"},
	})
}

func TestTooDeep(t *testing.T) {
	checkRead(t, "P1202", 1, []sample{
		{"- a", "doc(seq(item(<a>)))"}, {"a: b", "doc(map(pair!(<a> <b>)))"}, {"[a]", "doc(list(<a>))"}, {"--- [a, {}]", "doc(list(<a> error<{}>)) deep<{}>8"},
		{"- - a", "doc(seq(item(error<- a>))) deep<- a>2"}, {"- a: b # c\n- d", "doc(seq(item(error<a: b>) item(<d>))) deep<a: b>2"}, {"a:\n- b\nc: d", "doc(map(pair!(<a> error<- b>) pair!(<c> <d>))) deep<- b>3"},
		{"a:\n  b: c\n  d", "doc(map(pair!(<a> error<b: c> <d>))) deep<b: c>5"}, {"- [a]\n- b", "doc(seq(item(error<[a]>) item(<b>))) deep<[a]>2"}, {"a:\n [b\n]\nc: d", "doc(map(pair!(<a> error<[b\n]>) pair!(<c> <d>))) deep<[b\n]>4"},
		// what is too deep is the value
		{"- [a] b\n  c", "doc(seq(item(error<[a]> error<b>) error<c>)) deep<[a]>2 stray<b>6 second<c>10"},
	})
	checkRead(t, "P1202", 2, []sample{
		{"- - a", "doc(seq(item(seq(item(<a>)))))"}, {"- - - a\n  - b\n- c: d", "doc(seq(item(seq(item(error<- a>) item(<b>))) item(map(pair!(<c> <d>))))) deep<- a>4"}, {"- - - - a", "doc(seq(item(seq(item(error<- - a>))))) deep<- - a>4"},
		{"a:\n- [b]\n- c:\n-\n  d:", "doc(map(pair!(<a> seq(item(error<[b]>) item(error<c:>) item(error<d:>))))) deep<[b]>5 deep<c:>11 deep<d:>18"},
		{"a: [[b], c]", "doc(map(pair!(<a> list(error<[b]> <c>)))) deep<[b]>4"}, {"[[[a]]]", "doc(list(list(error<[a]>))) deep<[a]>2"}, {"- a:\n   - b\n-\n  c: d", "doc(seq(item(map(pair!(<a> error<- b>))) item(map(pair!(<c> <d>))))) deep<- b>8"},
	})
	for depth := 1; depth <= api.MaxDepth; depth++ {
		lists, maps, inLists, inMaps, ends := "", "", "doc(", "doc(", ")"
		for i := range depth {
			lists, maps = lists+"- ", maps+strings.Repeat(" ", i)+":\n"
			inLists, inMaps, ends = inLists+"seq(item(", inMaps+"map(pair(", "))"+ends
		}
		for _, x := range []struct{ b, in string }{{lists, inLists}, {maps + strings.Repeat(" ", depth), inMaps}} {
			checkRead(t, "P1202", depth, []sample{{x.b + "a", x.in + "<a>" + ends}})
			for _, deep := range []string{"- a", "a: b", "[a]", "&a {b"} {
				told := fmt.Sprintf(" deep<%s>%d", deep, len(x.b))
				checkRead(t, "P1202", depth, []sample{{x.b + deep, x.in + "error<" + deep + ">" + ends + told}})
			}
		}
	}
}

func TestTheRest(t *testing.T) {
	checkRead(t, "P1201", 50, []sample{
		{"a: 'b' c # d", "doc(map(pair!(<a> <'b'> error<c>))) stray<c>7"}, {"- 'a' 'b' c\n- d", "doc(seq(item(<'a'> error<'b' c>) item(<d>))) stray<'b' c>6"}, {"'a' b", "doc(<'a'> error<b>) stray<b>4"},
		{"a: b: c", "doc(map(pair!(<a> <b> error<: c>))) stray<: c>4"}, {"[a]: b", "doc(list(<a>) error<: b>) stray<: b>3"}, {"[a] b\nc", "doc(list(<a>) error<b> error<c>) stray<b>4 second<c>6"},
		{"a:\n  'b' c\nd: e", "doc(map(pair!(<a> <'b'> error<c>) pair!(<d> <e>))) stray<c>9"}, {"a: [b,\n# c\n\n d] e f # g\nh:", "doc(map(pair!(<a> list(<b> <d>) error<e f>) pair!(<h>))) stray<e f>16"},
		{"a: {b\n\n} }\n- c", "doc(map(pair!(<a> dict(pair!(<b>)) error<}>) error<- c>)) stray<}>9 mixed<- c>11"}, {"a: 'b' |\n c\nd:", "doc(map(pair!(<a> <'b'> error<|>) error< c\n> pair!(<d>))) stray<|>7 stray< c\n>9"},
		// without a value
		{"]", "doc(error<]>) stray<]>0"}, {"] a # b", "doc(error<] a>) stray<] a>0"}, {"a: } b\n c", "doc(map(pair!(<a> error<} b> <c>))) stray<} b>3"}, {"- ]\n  - b", "doc(seq(item(error<]> seq(item(<b>))))) stray<]>2"}, {"]\n- a", "doc(error<]> seq(item(<a>))) stray<]>0"},
		{"\xff", "doc(error<\xff>) byte<\xff>0 stray<\xff>0"}, {"\xffa: b", "doc(error<\xffa: b>) byte<\xff>0 stray<\xffa: b>0"}, {"a: \xff b\n  c", "doc(map(pair!(<a> error<\xff b> <c>))) byte<\xff>3 stray<\xff b>3"},
		{"[a\n] ]\n]", "doc(list(<a>) error<]> error<]>) stray<]>5 second<]>7"},
		// behind marks
		{"--- - a", "doc(error<- a>) stray<- a>4"}, {"--- - a\n- b", "doc(error<- a> seq(item(<b>))) stray<- a>4"}, {"--- a: b", "doc(<a> error<: b>) stray<: b>5"}, {"--- [a\n] b # c\nd", "doc(list(<a>) error<b> error<d>) stray<b>9 second<d>15"}, {"--- 'a' |\n b\nc", "doc(<'a'> error<|> error< b\n> error<c>) stray<|>8 stray< b\n>10 second<c>13"},
		{"... a", "error<a> stray<a>4"}, {"a\n... - b c # d\ne", "doc(<a>) error<- b c> doc(<e>) stray<- b c>6"}, {"...\n... a\n...", "error<a> stray<a>8"},
		{"... [a\n# b\n\nc]\nd", "error<[a> doc(error<c]> <d>) stray<[a>4 stray<c]>12"}, {"... |\n a\n\n b", "error<|> doc(error< a\n> error<\n> error< b>) stray<|>4 stray< a\n>6 stray<\n>9 stray< b>10"},
		// brackets are open behind an error, though no value has them
		{"a\nb: [\n\n# c\n  d, e # f\n]\ng: h", "doc(<a> error<b: [> error<d, e> error<]> error<g: h>) second<b: [>2 stray<d, e>14 stray<]>23 second<g: h>25"},
		{"-\na: [\nb\n]", "doc(seq(item(error<a: [> error<b> error<]>))) mixed<a: [>2 stray<b>7 stray<]>9"},
		// a value that reads rows of entries, for scan holds its brackets ended
		{"a: [b}\n- c\n] e: f\ng:", "doc(map(pair!(<a> list(<b> error<}> error<- c>) error<e: f>) pair!(<g>))) stray<}>5 stray<- c>7 stray<e: f>13"},
	})
}

func TestBytesTabsQuotesEscapes(t *testing.T) {
	checkRead(t, "P1203", 50, []sample{
		// DBad, wherever the byte stands
		{"a\xff", "doc(<a> error<\xff>) byte<\xff>1 stray<\xff>1"}, {"# \xff\xc3\n", "byte<\xff>2 byte<\xc3>3"}, {"'\xff'", "doc(<'\xff'>) byte<\xff>1"}, {"|\n \xed\xa0\x80", "doc(<|\n \xed\xa0\x80>) byte<\xed>3 byte<\xa0>4 byte<\x80>5"}, {"\ufffd\u00e9", "doc(<\ufffd\u00e9>)"},
		// DTab, of rows of entries and values alone
		{"\ta: 1", "doc(map(pair!(<a> <1>))) tab<\t>0"}, {" \t  - x", "doc(seq(item(<x>))) tab<\t  >1"}, {"a:\t1\t# b\t", "doc(map(pair!(<a> <1>)))"}, {"-\t- a", "doc(seq(item(seq(item(<a>)))))"}, {"\t# a\n\t\n \t", ""}, {"  \t]", "doc(error<]>) tab<\t>2 stray<]>3"},
		{"[\n\ta\n\t]\n\tb", "doc(list(<a>) error<b>) tab<\t>8 second<b>9"}, {"- |\n  a\n\tb\n---\tc", "doc(seq(item(<|\n  a\n>) error<b>)) doc(<c>) tab<\t>8 second<b>9"}, {"|\n  a\n  \tb", "doc(<|\n  a\n  \tb>)"}, {"a\n\tb: [\n\tc", "doc(<a> error<b: [> error<c>) tab<\t>2 second<b: [>3 stray<c>9"},
		{"a: [b}\n\tc]", "doc(map(pair!(<a> list(<b> error<}> error<c]>)))) open<[>3 stray<}>5 tab<\t>7 stray<c]>8"},
		// DQuote
		{"'a", "doc(<'a>) quote<'a>0"}, {"- \"a\n- 'b''", "doc(seq(item(<\"a>) item(<'b''>))) quote<\"a>2 quote<'b''>7"}, {"'a'\n", "doc(<'a'>)"}, {"\"\\\"", "doc(<\"\\\">) quote<\"\\\">0"}, {"a: ['b\n]", "doc(map(pair!(<a> list(<'b>)))) quote<'b>4"}, {"a 'b # 'c", "doc(<a 'b>)"}, {"|\n 'a", "doc(<|\n 'a>)"},
		{"a\n'b", "doc(<a> error<'b>) quote<'b>2 second<'b>2"}, {"'a: b", "doc(<'a: b>) quote<'a: b>0"}, {"'a' 'b", "doc(<'a'> error<'b>) quote<'b>4 stray<'b>4"},
		// DEscape
		{"\"\\q\\n\\x4\"", "doc(<\"\\q\\n\\x4\">) escape<\\>1 escape<\\>5"}, {"- \"\\u12\": \"\\", "doc(seq(item(map(pair!(<\"\\u12\"> <\"\\>))))) escape<\\>3 quote<\"\\>10 escape<\\>11"}, {"'\\q'", "doc(<'\\q'>)"}, {"\"\\ud800\\U00110000\\U0010ffff\"", "doc(<\"\\ud800\\U00110000\\U0010ffff\">) escape<\\>1 escape<\\>7"},
		// in order: by the beginning, by the end, by the code
		{"a: [\"\\q", "doc(map(pair!(<a> list(<\"\\q>)))) open<[>3 quote<\"\\q>4 escape<\\>5"}, {"a\n\xff\n\xffb", "doc(<a> error<\xff> error<\xffb>) byte<\xff>2 second<\xff>2 byte<\xff>4 second<\xffb>4"}, {"[[\xff", "doc(list(list(error<\xff>))) open<[>0 open<[>1 byte<\xff>2 stray<\xff>2"},
	})
}

// P9: of other depths there is nothing at all.
func TestDepthsThatAreNone(t *testing.T) {
	for _, depth := range []int{0, -1, 51, math.MinInt, math.MaxInt, math.MinInt32, 1 << 32} {
		for _, text := range []string{"", "a", "\xff", "[", "'a"} {
			if l, tree, d := Tree([]byte(text), depth); len(l)+len(tree.Nodes)+len(d) > 0 {
				t.Errorf("P1201: %q, depth %d: %v, %v, %v", text, depth, l, tree, d)
			}
		}
	}
	for _, depth := range []int{1, 50} {
		checkRead(t, "P1201", depth, []sample{{"a: b", "doc(map(pair!(<a> <b>)))"}})
		for _, b := range [][]byte{nil, {}} {
			if l, tree, d := Tree(b, depth); len(l)+len(d) > 0 || !arena.Same(tree, arena.New(0)) {
				t.Errorf("P1201: of no bytes: %v, %v, %v", l, tree, d)
			}
		}
	}
}

// W1: a text that is too long has no tokens, and a tree of none; what bytes it has is told all the same.
func TestTooLongTexts(t *testing.T) {
	b := strings.Repeat("- a\n", api.MaxText/4)
	if l, tree, d := Tree([]byte(b), 1); len(l) != api.MaxText || len(tree.Nodes) != 3+2*api.MaxText/4 || len(d) > 0 {
		t.Errorf("P1201: a longest text: %d tokens, %d nodes, %d told", len(l), len(tree.Nodes), len(d))
	}
	l, tree, d := Tree([]byte(b+"\xff"), 1)
	if len(l) > 0 || !arena.Same(tree, arena.New(0)) || !slices.Equal(d, []api.Diag{{Code: api.DBad, From: api.MaxText, To: api.MaxText + 1}}) {
		t.Errorf("P1201: one byte longer: %d tokens, %v, %v", len(l), tree, d)
	}
}
