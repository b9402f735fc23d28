package flow

import (
	"fmt"
	"regexp"
	"slices"
	"strings"
	"testing"

	"corrector/api"
	"corrector/arena"
	"corrector/scan"
)

// letters are the kinds of tokens, a letter each, from 0 on.
const letters = "?nibc-:,[{]}&*!p'\"hTSEx"

// The chapter's words as they stand there, on the letters of tokens.
var (
	aMeant  = regexp.MustCompile(`\Ab*((?:[&!]b*)*)`)
	aScalar = regexp.MustCompile(`\A[p'"]`)
	anAlias = regexp.MustCompile(`\A\*`)
	aBlock  = regexp.MustCompile(`\Ah(?:[bc]*n?T+)?`)
	aNested = regexp.MustCompile(`\A[\[{]`)
	aKey    = regexp.MustCompile(`\A((?:[&!][nibc]*)*(?:[p'"*][nibc]*)?):`)
	aValue  = regexp.MustCompile(`\A[&!p'"*h\[{]`)
	anIdle  = regexp.MustCompile(`\A[nibc]*`)
	aStop   = regexp.MustCompile(`[SE]|\z`)
)

// written are tokens by their letters.
func written(l []api.Token) string {
	out := make([]byte, len(l))
	for i, token := range l {
		out[i] = letters[token.Kind]
	}
	return string(out)
}

// reading is the chapter's own, by its words: arena puts in each node, one behind the other.
type reading struct {
	l    []api.Token
	word string // of the tokens ahead of end
	tree arena.Tree
	told []api.Diag
}

func (w *reading) put(up, kind, from, to int) int {
	tree, at := arena.Add(w.tree, up, kind, from, to)
	if at < 0 {
		panic(fmt.Sprint("no node of ", w.word, ": ", up, kind, from, to))
	}
	w.tree = tree
	return at
}

func (w *reading) key(at int) {
	w.tree.Nodes[at].Key = true
}

func (w *reading) tell(code, from, to int) {
	w.told = append(w.told, api.Diag{Code: code, From: w.l[from].From, To: w.l[to-1].To})
}

func (w *reading) wrong(up, code, from, to int) (node, next int) {
	w.tell(code, from, to)
	return w.put(up, api.NError, from, to), to
}

// behind is the place behind the last token that counts ahead of one.
func (w *reading) behind(at int) int {
	return len(strings.TrimRight(w.word[:at], "nibc"))
}

// stop is where the next TStart or TEnd stands, or the end.
func (w *reading) stop(at int) int {
	return at + aStop.FindStringIndex(w.word[at:])[0]
}

// open is how many brackets tokens begin more than they end.
func open(word string) int {
	count := func(signs string) int {
		return len(word) - len(strings.NewReplacer(signs[:1], "", signs[1:], "").Replace(word))
	}
	return count("[{") - count("]}")
}

// within tells whether brackets are open behind tokens.
func within(word string) bool {
	for i := range word {
		if open(word[i:]) > 0 {
			return true
		}
	}
	return false
}

// value is P1101.
func (w *reading) value(up, at, depth int) (node, next int) {
	m := aMeant.FindStringSubmatchIndex(w.word[at:])
	first, here := at+m[2], at+m[3]
	rest := w.word[here:]
	switch {
	case aScalar.MatchString(rest):
		return w.put(up, api.NScalar, first, here+1), here + 1
	case anAlias.MatchString(rest):
		return w.put(up, api.NAlias, first, here+1), here + 1
	case aBlock.MatchString(rest):
		next = here + len(aBlock.FindString(rest))
		return w.put(up, api.NScalar, first, next), next
	case aNested.MatchString(rest) && depth == 0:
		return w.wrong(up, api.DDeep, first, w.together(here))
	case aNested.MatchString(rest):
		return w.collection(up, first, here, depth)
	case first < here:
		return w.put(up, api.NScalar, first, w.behind(here)), w.behind(here)
	}
	return -1, at
}

// together is the place behind brackets that are passed over together.
func (w *reading) together(bracket int) int {
	stop := w.stop(bracket)
	for i := bracket + 1; i <= stop; i++ {
		if open(w.word[bracket:i]) == 0 {
			return i
		}
	}
	return w.behind(stop)
}

// collection is P1102.
func (w *reading) collection(up, first, bracket, depth int) (node, next int) {
	kind, own, other := api.NFlowS, byte(']'), byte('}')
	if w.word[bracket] == '{' {
		kind, own, other = api.NFlowM, '}', ']'
	}
	c := w.put(up, kind, first, bracket+1)
	stands := false
	for next = bracket + 1; ; {
		next += len(anIdle.FindString(w.word[next:]))
		if next == w.stop(next) {
			w.tell(api.DOpen, bracket, bracket+1)
			next = w.behind(next)
			break
		}
		sign := w.word[next]
		if sign == own {
			next++
			break
		}
		switch {
		case sign == other, sign == ',' && !stands:
			_, next = w.wrong(c, api.DStray, next, next+1)
		case sign == ',':
			next++
		case stands:
			_, next = w.wrong(c, api.DStray, next, w.others(next))
		default:
			stands, next = w.entry(c, next, depth-1)
		}
		stands = stands && sign != ','
	}
	w.tree = arena.Grow(w.tree, c, next)
	return c, next
}

// others is the place behind what may not stand there, as a value does.
func (w *reading) others(at int) int {
	stop := w.stop(at)
	for i := at; i < stop; i++ {
		if strings.IndexByte(",]}", w.word[i]) >= 0 && !within(w.word[at:i]) {
			stop = i
		}
	}
	return w.behind(stop)
}

// entry tells whether a value stands there.
func (w *reading) entry(c, at, depth int) (stands bool, next int) {
	rest := w.word[at:]
	m := aKey.FindStringSubmatch(rest)
	switch {
	case m != nil:
		return true, w.pair(c, at, m[1], depth)
	case !aValue.MatchString(rest):
		_, next = w.wrong(c, api.DStray, at, at+1)
		return false, next
	case w.tree.Nodes[c].Kind == api.NFlowM:
		c = w.put(c, api.NPair, at, at)
		w.key(c)
	}
	_, next = w.value(c, at, depth)
	return true, next
}

// pair reads a key, and what stands behind its colon.
func (w *reading) pair(c, at int, key string, depth int) int {
	colon := at + len(key)
	p := w.put(c, api.NPair, at, colon+1)
	if key != "" {
		kind := api.NScalar
		if strings.Contains(key, "*") {
			kind = api.NAlias
		}
		w.put(p, kind, at, w.behind(colon))
		w.key(p)
	}
	behind := colon + 1 + len(anIdle.FindString(w.word[colon+1:]))
	if node, next := w.value(p, behind, depth); node >= 0 {
		return next
	}
	return colon + 1
}

// asked is what is asked of Value.
type asked struct {
	b              []byte
	l              []api.Token
	tree           arena.Tree
	up             int
	at, end, depth int
}

// check holds a value against the words, and answers what is told.
func check(t *testing.T, a asked) []api.Diag {
	t.Helper()
	w := reading{l: a.l, word: written(a.l[:a.end]), tree: a.tree}
	node, next := w.value(a.up, a.at, a.depth)
	gotTree, gotNode, gotNext, told := Value(a.b, a.l, a.tree, a.up, a.at, a.end, a.depth)
	short := w.word[a.at:min(a.end, a.at+60)]
	if gotNode != node || gotNext != next || !slices.Equal(told, w.told) {
		t.Fatalf("P1101, P1102: %q, depth %d: node %d, up to %d, %v, not %d, %d, %v", short, a.depth, gotNode, gotNext, told, node, next, w.told)
	}
	if !arena.Same(gotTree, w.tree) {
		t.Fatalf("P1101, P1102: %q, depth %d:\n%v, not\n%v", short, a.depth, gotTree, w.tree)
	}
	if node < 0 && next != a.at || node >= 0 && (next <= a.at || next > a.end || gotTree.Nodes[node].To != next) {
		t.Fatalf("P1103: %q, depth %d: node %d, from %d to %d of %d", short, a.depth, node, a.at, next, a.end)
	}
	// T1, T2: it lies as it must; errors are as many as is told of them, and over the same bytes.
	if !arena.Check(gotTree, gotTree.Nodes[0].To) {
		t.Fatalf("T1: %q, depth %d: %v", short, a.depth, gotTree)
	}
	var errors, wrong []api.Span
	for _, n := range gotTree.Nodes[len(a.tree.Nodes):] {
		if n.Kind == api.NError {
			errors = append(errors, api.Span{From: a.l[n.From].From, To: a.l[n.To-1].To})
		}
	}
	for _, x := range told {
		if x.Code != api.DOpen {
			wrong = append(wrong, api.Span{From: x.From, To: x.To})
		}
	}
	if !slices.Equal(errors, wrong) {
		t.Fatalf("T2: %q, depth %d: errors over %v, told of %v", short, a.depth, errors, wrong)
	}
	return told
}

// opened is a tree of a document, from one token on, of so many.
func opened(tokens, at int) arena.Tree {
	tree, _ := arena.Add(arena.New(tokens), 0, api.NDoc, at, at)
	return tree
}

// lettered are tokens of letters, of sizes that differ.
func lettered(word string) []api.Token {
	var l []api.Token
	at := 0
	for i := range len(word) {
		size := 1 + i%3
		l = append(l, api.Token{Kind: strings.IndexByte(letters, word[i]), From: at, To: at + size})
		at += size
	}
	return l
}

func checkWord(t *testing.T, word string, depths ...int) {
	t.Helper()
	l := lettered(word)
	for _, depth := range depths {
		check(t, asked{l: l, tree: opened(len(l), 0), up: 1, end: len(l), depth: depth})
	}
}

// everyWord calls do with each word of up to some count of signs.
func everyWord(signs string, count int, do func(s string)) {
	words := []string{""}
	for range count + 1 {
		var longer []string
		for _, s := range words {
			do(s)
			for i := range len(signs) {
				longer = append(longer, s+signs[i:i+1])
			}
		}
		words = longer
	}
}

// The words hold for tokens of all kinds, whether scan puts them so or not.
func TestEveryFewTokens(t *testing.T) {
	everyWord(letters, 3, func(word string) { checkWord(t, word, 0, 1) })
	for _, head := range []string{"[", "{", "[p", "{p", "[p,", "{p:", "[p:", "{:", "{[", "[{p", "[pp[", "{pp", "&!b", "[&n", "h"} {
		everyWord(letters, 2, func(word string) { checkWord(t, head+word+"p]", 0, 1, 2) })
	}
}

func TestEverySomewhatMoreTokens(t *testing.T) {
	everyWord("p:,[]", 5, func(word string) { checkWord(t, "["+word, 1, 2); checkWord(t, "{"+word, 1, 2) })
	everyWord("[{]}p", 6, func(word string) { checkWord(t, word, 0, 1, 2) })
	everyWord("&*b:n", 5, func(word string) { checkWord(t, word, 1); checkWord(t, "["+word, 1); checkWord(t, "{"+word, 1) })
	everyWord("hbcnT", 5, func(word string) { checkWord(t, word, 1); checkWord(t, "&"+word, 1); checkWord(t, "[h"+word, 1) })
	everyWord("n]}S,[", 4, func(word string) { checkWord(t, "[pp"+word+"p]", 1); checkWord(t, "{p:["+word, 1, 2) })
}

// Of each kind it hangs on the kind alone whether it counts, ends, opens, or is part of a value or a key.
func TestEveryKindAmidOthers(t *testing.T) {
	for _, x := range []string{
		"? p", "&? p", "&b?b p", "[?p,?p]", "[p?:?p?]", "[&?p?:]", "[&?!?*?:]", "[p?&?:p]", "[p:?&?p]", "{p:?,?}", "{?:?}", "{p:?:?}",
		"[p[?]?,p]", "[p[?,?]p", "[p?[?p],p]", "{?p?}", "{?,?p}", "{?[?]?:p}", "h?T", "hb?nT", "h?nT?T", "[[?]?", "&[?[?]?p]", "[?",
	} {
		for i := range len(letters) {
			for j := range len(letters) {
				word := strings.Replace(x, "?", letters[i:i+1], 1)
				word = strings.ReplaceAll(strings.ReplaceAll(word, "?", letters[j:j+1]), " ", "b")
				checkWord(t, word, 0, 1, 2)
			}
		}
	}
}

// checkText holds a text's values, from each of its tokens on, against the words.
func checkText(t *testing.T, text string, depth int) {
	t.Helper()
	b := []byte(text)
	l := scan.Tokens(b)
	for at := range len(l) + 1 {
		check(t, asked{b: b, l: l, tree: opened(len(l), at), up: 1, at: at, end: len(l), depth: depth})
	}
}

func TestEveryShortText(t *testing.T) {
	everyWord(" \n:a&*[]{},'", 3, func(s string) { checkText(t, s, 3) })
	everyWord(" \n:a[,", 4, func(s string) { checkText(t, "["+s+"]", 3); checkText(t, "{"+s+"}", 1) })
	everyWord("\n |a.", 4, func(s string) { checkText(t, "|\n"+s, 1); checkText(t, "&a >- # b\n"+s, 1) })
	everyWord(" {[:", 4, func(s string) { checkText(t, "{"+s+"a: }]", 2) })
}

// die throws, always the same.
type die uint32

func (d *die) of(n int) int {
	*d = *d*1664525 + 1013904223
	return int(*d>>8) % n
}

// thrown is a text of some pieces.
func (d *die) thrown(pieces []string, most int) string {
	text := ""
	for range d.of(most) {
		text += pieces[d.of(len(pieces))]
	}
	return text
}

// somewhere is a tree into which a value may be put, and the node into which: amid others, which may end behind the end.
func (d *die) somewhere(tokens, at int) (tree arena.Tree, up int) {
	tree = arena.New(tokens)
	from := 0
	for range d.of(6) {
		to := from + d.of(at-from+1)
		begins := from + d.of(to-from+1)
		if n, node := arena.Add(tree, up, 1+d.of(api.NError), begins, to); node >= 0 {
			tree = n
			tree.Nodes[node].Key = d.of(2) == 0
			if d.of(3) > 0 {
				up = node
			} else {
				from = to
			}
		}
	}
	if d.of(4) == 0 {
		tree = arena.Grow(tree, up, at+d.of(tokens-at+1))
	}
	return tree, up
}

func TestWildTexts(t *testing.T) {
	pieces := []string{
		"[", "[", "{", "{", "]", "]", "}", "}", ", ", ", ", ",", "a", "b c", ": ", ": ", ":", "'d'", "\"e\"", "'", "&a ", "!t ", "*a ", "*a : ",
		" ", "  ", "\t", "\n", "\n ", "\r\n", " # c\n", "#", "- ", "\n- ", "|", ">-\n f\n", "\n---", "\n...", "--- ", "\xff", "\u00e9", "\x00",
	}
	d := die(1101)
	var told [api.DAlias + 1]int
	for range 60000 {
		b := []byte(d.thrown(pieces, 30))
		l := scan.Tokens(b)
		at := d.of(len(l)+1) * d.of(3) / 2
		end := len(l) - d.of(len(l)-at+1)*d.of(2)
		tree, up := d.somewhere(len(l), at)
		for _, x := range check(t, asked{b: b, l: l, tree: tree, up: up, at: at, end: end, depth: d.of(5)}) {
			told[x.Code]++
		}
	}
	// What is thrown has all that may be told.
	if min(told[api.DStray], told[api.DOpen], told[api.DDeep]) < 500 {
		t.Errorf("only %v told by their codes", told)
	}
}
