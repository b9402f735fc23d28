package parse

import (
	"fmt"
	"slices"
	"strings"
	"testing"

	"corrector/api"
	"corrector/arena"
	"corrector/flow"
	"corrector/quote"
	"corrector/rows"
	"corrector/runes"
	"corrector/scan"
)

// letters are the kinds of tokens, a letter each, from 0 on.
const letters = "?nibc-:,[{]}&*!p'\"hTSEx"

// place is what a value may be put into: the document, or a cur; whether it has one.
type place struct {
	node int
	full bool
}

// collection is one that is open.
type collection struct {
	kind, node, col int
	cur             *place
}

// reading is the chapter's own, by its words: arena puts in each node, flow each value, one behind the other.
type reading struct {
	b     []byte
	l     []api.Token
	word  string // the tokens' letters
	rows  []api.Row
	depth int
	tree  arena.Tree
	told  []api.Diag
	doc   *place        // the document that is open
	open  []*collection // from the outermost one on
	made  *place        // the cur that the row's own entries made last
	read  int           // ahead of it values have read
}

func (w *reading) put(up, kind, from, to int) int {
	tree, at := arena.Add(w.tree, up, kind, from, to)
	if at < 0 {
		panic(fmt.Sprintf("no node of %q: %d %d %d %d", w.b, up, kind, from, to))
	}
	w.tree = tree
	return at
}

func (w *reading) tell(code, from, to int) {
	w.told = append(w.told, api.Diag{Code: code, From: from, To: to})
}

// counting are the places from the first token that counts to behind the last one, of some.
func (w *reading) counting(from, to int) (int, int) {
	word := w.word[from:to]
	return to - len(strings.TrimLeft(word, "nibc")), from + len(strings.TrimRight(word, "nibc"))
}

func (w *reading) counts(from, to int) bool {
	return strings.Trim(w.word[from:to], "nibc") != ""
}

// wrong is an error over tokens, into a node.
func (w *reading) wrong(up, code, from, to int) {
	from, to = w.counting(from, to)
	w.put(up, api.NError, from, to)
	w.tell(code, w.l[from].From, w.l[to-1].To)
}

// wrongHere is an error over tokens, where the chapter says that it is put.
func (w *reading) wrongHere(code, from, to int) {
	switch {
	case w.made != nil:
		w.wrong(w.made.node, code, from, to)
	case len(w.open) > 0:
		in := w.open[len(w.open)-1]
		up := in.cur.node
		if in.cur.full {
			up = in.node
		}
		w.wrong(up, code, from, to)
	default:
		w.begin(from, to)
		w.wrong(w.doc.node, code, from, to)
	}
}

// begin opens a document at the first token that counts of some, if none is open.
func (w *reading) begin(from, to int) {
	if w.doc == nil {
		from, _ = w.counting(from, to)
		w.doc = &place{node: w.put(0, api.NDoc, from, from)}
	}
}

// value reads one at a token of a row into a place, and the rest.
func (w *reading) value(row api.Row, up *place, at, depth int) {
	end := len(w.l)
	if stop := strings.IndexAny(w.word[at:], "SE"); stop >= 0 {
		end = at + stop
	}
	tree, node, next, d := flow.Value(w.b, w.l, w.tree, up.node, at, end, depth)
	w.told = append(w.told, d...)
	w.tree = tree
	if node >= 0 {
		up.full = true
		i := slices.IndexFunc(w.rows, func(r api.Row) bool { return r.From < next && next <= r.To })
		row = w.rows[i]
	}
	w.read = row.To
	if w.counts(next, row.To) {
		w.wrong(up.node, api.DStray, next, row.To)
	}
}

// mark is P1201's RMark.
func (w *reading) mark(row api.Row) {
	if w.word[row.From] == 'S' {
		w.open, w.doc = nil, &place{node: w.put(0, api.NDoc, row.From, row.From+1)}
		w.value(row, w.doc, row.From+1, w.depth)
		return
	}
	if w.doc != nil {
		w.tree = arena.Grow(w.tree, w.doc.node, row.From+1)
	}
	w.doc, w.open = nil, nil
	if w.counts(row.From+1, row.To) {
		w.wrong(0, api.DStray, row.From+1, row.To)
	}
}

// body is P1201's RBody.
func (w *reading) body(row api.Row) {
	w.begin(row.From, row.To)
	entries, rest := rows.Entries(w.b, w.l, row)
	for _, e := range entries {
		if code := w.place(e); code != 0 {
			w.wrongHere(code, e.From, row.To)
			return
		}
	}
	first, _ := w.counting(rest, row.To)
	if len(entries) > 0 {
		if w.counts(rest, row.To) {
			w.value(row, w.open[len(w.open)-1].cur, first, w.depth-len(w.open))
		}
		return
	}
	up, within := w.doc, 0
	for i, c := range w.open {
		if c.col < row.Col {
			up, within = c.cur, i+1
		}
	}
	if up.full {
		w.wrongHere(api.DSecond, row.From, row.To)
		return
	}
	w.open = w.open[:within]
	w.value(row, up, first, w.depth-len(w.open))
}

// place is P1202.
func (w *reading) place(e rows.Entry) (code int) {
	wanted, dash := api.NMap, e.Dash
	if dash {
		wanted = api.NSeq
	}
	i := len(w.open) - 1
	for i >= 0 && w.open[i].col > e.Col {
		i--
	}
	up := w.doc
	if i >= 0 {
		c := w.open[i]
		up = c.cur
		if c.col == e.Col {
			switch {
			case c.kind == wanted:
				w.cur(i, e)
				return 0
			case c.kind == api.NMap && !c.cur.full && dash:
				return w.within(i, up, wanted, e)
			case c.kind == api.NSeq && !dash && i > 0 && w.open[i-1].kind == api.NMap && w.open[i-1].col == e.Col:
				w.cur(i-1, e)
				return 0
			}
			return api.DMixed
		}
	}
	switch {
	case i < 0 && w.doc.full:
		return api.DSecond
	case up.full:
		return api.DIndent
	}
	return w.within(i, up, wanted, e)
}

// within is a new collection within the cur of the collection i (-1: within the document), and a new cur in it.
func (w *reading) within(i int, up *place, kind int, e rows.Entry) (code int) {
	if i+1+1 > w.depth {
		return api.DDeep
	}
	up.full = true
	w.open = append(w.open[:i+1:i+1], &collection{kind: kind, node: w.put(up.node, kind, e.From, e.From), col: e.Col})
	w.cur(i+1, e)
	return 0
}

// cur is a new one in the collection i.
func (w *reading) cur(i int, e rows.Entry) {
	w.open = w.open[:i+1]
	c := w.open[i]
	kind := map[int]int{api.NSeq: api.NItem, api.NMap: api.NPair}[c.kind]
	node := w.put(c.node, kind, e.From, e.To)
	c.cur = &place{node: node}
	w.made = c.cur
	if key := strings.TrimRight(w.word[e.From:e.To], ":"); kind == api.NPair && key != "" {
		kind = api.NScalar
		if strings.Contains(key, "*") {
			kind = api.NAlias
		}
		from, to := w.counting(e.From, e.To-1)
		w.put(node, kind, from, to)
		w.tree.Nodes[node].Key = true
	}
}

// bytes is P1203.
func (w *reading) bytes() {
	for _, at := range runes.Bad(w.b) {
		w.tell(api.DBad, at, at+1)
	}
	for _, row := range w.rows {
		first, _ := w.counting(row.From, row.To)
		for _, x := range w.l[row.From:first] {
			if row.Kind == api.RBody && x.Kind == api.TBlank && strings.Contains(string(w.b[x.From:x.To]), "\t") {
				w.tell(api.DTab, x.From, x.To)
			}
		}
	}
	for _, x := range w.l {
		if x.Kind == api.TSingle || x.Kind == api.TDouble {
			_, bad, ended := quote.Text(x.Kind, string(w.b[x.From:x.To]))
			if !ended {
				w.tell(api.DQuote, x.From, x.To)
			}
			for _, at := range bad {
				w.tell(api.DEscape, x.From+at, x.From+at+1)
			}
		}
	}
}

// before is chapter 14's order.
func before(a, b api.Diag) bool {
	if a.From != b.From {
		return a.From < b.From
	}
	if a.To != b.To {
		return a.To < b.To
	}
	return a.Code < b.Code
}

// inOrder is chapter 14's Sort.
func inOrder(l []api.Diag) []api.Diag {
	seen := map[api.Diag]bool{}
	var out []api.Diag
	for _, x := range l {
		if !seen[x] {
			out = append(out, x)
		}
		seen[x] = true
	}
	slices.SortFunc(out, func(a, b api.Diag) int {
		if before(a, b) {
			return -1
		}
		return 1
	})
	return out
}

// words are a text's tokens, its tree, and what is told, by the chapter's words.
func words(b []byte, depth int) ([]api.Token, arena.Tree, []api.Diag) {
	w := &reading{b: b, l: scan.Tokens(b), depth: depth}
	for _, x := range w.l {
		w.word += letters[x.Kind : x.Kind+1]
	}
	w.rows = rows.Rows(b, w.l)
	w.tree = arena.New(len(w.l))
	for _, row := range w.rows {
		w.made = nil
		if row.From < w.read {
			continue
		}
		switch row.Kind {
		case api.RMark:
			w.mark(row)
		case api.RBody:
			w.body(row)
		case api.RText, api.RFlow:
			if w.counts(row.From, row.To) {
				w.wrongHere(api.DStray, row.From, row.To)
			}
		}
	}
	w.bytes()
	return w.l, w.tree, inOrder(w.told)
}

// wrongs are the codes that are told of error nodes.
var wrongs = []int{api.DMixed, api.DIndent, api.DSecond, api.DStray, api.DDeep}

// check holds a text against the words, and answers what is told.
func check(t *testing.T, text string, depth int) []api.Diag {
	t.Helper()
	l, tree, told := Tree([]byte(text), depth)
	wantL, wantTree, wantTold := words([]byte(text), depth)
	short := text[:min(len(text), 200)]
	if !slices.Equal(l, wantL) {
		t.Fatalf("P1201: %q: tokens %v, not %v", short, l, wantL)
	}
	if !arena.Same(tree, wantTree) {
		t.Fatalf("P1201, P1202: %q, depth %d:\n%v, not\n%v", short, depth, tree, wantTree)
	}
	if !slices.Equal(told, wantTold) {
		t.Fatalf("P1203: %q, depth %d: %v, not %v", short, depth, told, wantTold)
	}
	checkWhole(t, text, l, tree, told)
	return told
}

// checkWhole is P1204: it lies as it must; errors are as many as is told of them, and over the same bytes.
func checkWhole(t *testing.T, text string, l []api.Token, tree arena.Tree, told []api.Diag) {
	t.Helper()
	short := text[:min(len(text), 200)]
	if !arena.Check(tree, len(l)) || !scan.Whole(l, len(text)) {
		t.Fatalf("P1204: %q: %v", short, tree)
	}
	errors := map[api.Span]int{}
	for _, n := range tree.Nodes {
		if n.Kind == api.NError {
			errors[api.Span{From: l[n.From].From, To: l[n.To-1].To}]++
		}
	}
	for i, x := range told {
		if x.Code < api.DBad || x.Code > api.DDeep || x.From < 0 || x.From >= x.To || x.To > len(text) || i > 0 && !before(told[i-1], x) {
			t.Fatalf("P1203: %q: %v", short, told)
		}
		if slices.Contains(wrongs, x.Code) {
			errors[api.Span{From: x.From, To: x.To}]--
		}
	}
	for span, n := range errors {
		if n != 0 {
			t.Fatalf("P1204: %q: over %v %d errors more than told", short, span, n)
		}
	}
}

// everyText calls do with each text of up to some count of pieces.
func everyText(pieces []string, count int, do func(text string)) {
	texts := []string{""}
	for range count + 1 {
		var longer []string
		for _, s := range texts {
			do(s)
			for _, piece := range pieces {
				longer = append(longer, s+piece)
			}
		}
		texts = longer
	}
}

func TestEveryShortText(t *testing.T) {
	for _, x := range []struct {
		pieces string
		count  int
		heads  []string
	}{
		{"a|: |- |\n| ", 6, []string{""}},
		{"a|: |- |\n| |[|]|,", 4, []string{"", "a: ", "- a\n"}},
		{"a|:|\n| |{|}|[|]", 4, []string{"", "a: [", "- {"}},
		{"a: |\n| |>|'b' |-", 5, []string{"", "|\n"}},
		{"--- |\n|...|a|- |: |]", 4, []string{"", "---\n", "a:\n", "... ["}},
		{"&a |*b |!c |: |'d'|\n|- ", 4, []string{"", "k: ", "- "}},
		{"'|\"|\\|x|\t|\n| |\xff|#", 4, []string{"", "a: "}},
		{"\t| |\n|a|: |- |# c\n|[", 4, []string{"", "-\n"}},
	} {
		for _, head := range x.heads {
			everyText(strings.Split(x.pieces+"|", "|")[:strings.Count(x.pieces, "|")+1], x.count, func(text string) {
				check(t, head+text, 1)
				check(t, head+text, 3)
			})
		}
	}
}

// everyRow are rows of an indent each and something behind it.
func everyRow(indents int, behind ...string) []string {
	var l []string
	for i := range indents {
		for _, x := range behind {
			l = append(l, strings.Repeat(" ", i)+x+"\n")
		}
	}
	return l
}

func TestEveryFewRows(t *testing.T) {
	everyText(everyRow(3, "-", "- a", "a:", "b: c", "x"), 4, func(text string) { check(t, text, 2) })
	everyText(everyRow(4, "-", "a:", "x", "- - b", "- c: d", "- e:", "- - f:"), 3, func(text string) { check(t, text, 50) })
	everyText(everyRow(5, "-", "a:", "- -", "- a:", "x"), 3, func(text string) { check(t, text, 3) })
	everyText(append(everyRow(2, "-", "a:", "x", "- ]", "b: {"), "---\n", "--- x\n", "...\n", "}\n", "---\n "), 3, func(text string) { check(t, text, 3) })
	everyText(append(everyRow(3, "a: |", "-", "b", "- >", "k:"), "\n", "...\n"), 3, func(text string) { check(t, text, 3) })
	everyText(everyRow(3, "- [", "k: {a", "x", "]", "], y", "} z", "k: v"), 3, func(text string) { check(t, text, 3) })
}

// die throws, always the same.
type die uint32

func (d *die) of(n int) int {
	*d = *d*1664525 + 1013904223
	return int(*d>>8) % n
}

// thrown is a text of some pieces.
func (d *die) thrown(pieces []string, most int) string {
	text := ""
	for range d.of(most) {
		text += pieces[d.of(len(pieces))]
	}
	return text
}

func TestWildTexts(t *testing.T) {
	pieces := []string{
		"- ", "- ", "-\n", "a: ", "a:\n", "*a : ", "'k': ", ": ", ":", "&a !b k: ", "a", "b c", "'d'", "\"e\"", "'", "\"", "\\q", "\\n", "&a ", "!t ", "*a ",
		"\n", "\n", "\n", "\n ", "\n  ", "\n   ", "\r\n", "\r", " ", "  ", "\t", "\n\t", " # c\n", "#",
		"[", "{", "]", "}", ", ", "[a, b]", "{c: d}", "[\n", "|", "|\n  a\n", ">-\n b\n", "\n---", "\n...", "\n--- ", "\n... ", "--- ", "\xff", "\u00e9", "\x00",
	}
	d := die(1201)
	var told [api.DAlias + 1]int
	for range 60000 {
		for _, x := range check(t, d.thrown(pieces, 40), 1+d.of(6)) {
			told[x.Code]++
		}
	}
	// What is thrown has all that may be told.
	if least := slices.Min(told[api.DBad : api.DDeep+1]); least < 500 {
		t.Errorf("only %v told by their codes", told)
	}
}

// wildRow is a row that may well stand at a place.
func (d *die) wildRow() string {
	text := strings.Repeat(" ", d.of(8))
	for d.of(3) == 0 {
		text += "- " + strings.Repeat(" ", d.of(2))
	}
	text += []string{"", "", "a: ", "b:", "&x c : ", ": ", "*d : "}[d.of(7)]
	text += []string{"", "", "", "x", "'y' ", "'y' z", "[a]", "{b: c} d", "[", "]", "|", "> # c", "&v", "*w", "{", "}", ", e"}[d.of(17)]
	if d.of(20) == 0 {
		text = []string{"---", "...", "--- x", "... y", "--- [", "--- |", "--- 'a' b"}[d.of(7)]
	}
	if d.of(30) == 0 {
		text = "\t" + text
	}
	return text + []string{"\n", "\n", "\n", " # d\n", "\r\n", "\r"}[d.of(6)]
}

func TestWildRows(t *testing.T) {
	d := die(1202)
	var told [api.DAlias + 1]int
	for range 40000 {
		text := ""
		for range d.of(14) {
			text += d.wildRow()
		}
		for _, x := range check(t, text, []int{1, 2, 3, 4, 50}[d.of(5)]) {
			told[x.Code]++
		}
	}
	for _, code := range wrongs {
		if told[code] < 4000 {
			t.Errorf("only %v told by their codes", told)
		}
	}
}
