package scan

import (
	"regexp"
	"slices"
	"testing"

	"corrector/api"
	"corrector/runes"
)

// The chapter's list as it stands there: what each kind of token looks like from a place on.
const (
	behind = `(?:[ \t\r\n]|\z)`
	name   = `[a-zA-Z0-9_-]`
)

var (
	isMark     = regexp.MustCompile(`\A(---|\.\.\.)` + behind)
	isBreak    = regexp.MustCompile(`\A(\r\n|\n|\r)`)
	isIndent   = regexp.MustCompile(`\A( +)`)
	isBlank    = regexp.MustCompile(`\A([ \t]+)`)
	isComment  = regexp.MustCompile(`\A(#[^\r\n]*)`)
	isDash     = regexp.MustCompile(`\A(-)` + behind)
	isColon    = regexp.MustCompile(`\A(:)` + behind)
	isColonIn  = regexp.MustCompile(`\A(:)(?:[ \t\r\n,\[\]{}]|\z)`)
	isAnchor   = regexp.MustCompile(`\A(&` + name + `+)`)
	isAlias    = regexp.MustCompile(`\A(\*` + name + `+)`)
	isTag      = regexp.MustCompile(`\A(!(?:!|` + name + `)*)`)
	isSingle   = regexp.MustCompile(`\A('(?:''|[^'\r\n])*'?)`)
	isDouble   = regexp.MustCompile(`\A("(?:\\[^\r\n]?|[^"\\\r\n])*"?)`)
	isHead     = regexp.MustCompile(`\A([|>][+-]?)(?:[ \t]*|[ \t]+#[^\r\n]*)(?:[\r\n]|\z)`)
	isWholeRow = regexp.MustCompile(`\A([^\r\n]*(?:\r\n|\n|\r|\z))`)
	isEmptyRow = regexp.MustCompile(`\A[ \t]*(?:[\r\n]|\z)`)
)

// size is how many bytes an expression finds at the front; 0: none.
func size(e *regexp.Regexp, b []byte) int {
	if m := e.FindSubmatchIndex(b); m != nil {
		return m[3]
	}
	return 0
}

// reading is a text that is read by the chapter's words, without what scan leans on.
type reading struct {
	b    []byte
	bad  map[int]bool
	l    []api.Token
	at   int
	row  int // where the row begins
	from int // the number of its first token
	open int
}

// wanted is P601's Tokens by its words, of a text that is not too long.
func wanted(b []byte) []api.Token {
	w := reading{b: b, bad: map[int]bool{}}
	for _, at := range runes.Bad(b) {
		w.bad[at] = true
	}
	for w.at < len(b) {
		kind, n := w.first()
		w.put(kind, n)
		if kind == api.TStart || kind == api.TEnd {
			w.open = 0
		}
		if kind == api.TOpenSeq || kind == api.TOpenMap {
			w.open++
		}
		if (kind == api.TEndSeq || kind == api.TEndMap) && w.open > 0 {
			w.open--
		}
		if kind == api.TBreak {
			w.block()
			w.row, w.from = w.at, len(w.l)
		}
	}
	return w.l
}

func (w *reading) put(kind, n int) {
	w.l = append(w.l, api.Token{Kind: kind, From: w.at, To: w.at + n})
	w.at += n
}

// block puts the TTexts behind a row's break, if a THead is on the row.
func (w *reading) block() {
	head := func(t api.Token) bool { return t.Kind == api.THead }
	counts := func(t api.Token) bool {
		return !slices.Contains([]int{api.TBreak, api.TIndent, api.TBlank, api.TComment}, t.Kind)
	}
	row := w.l[w.from:]
	if !slices.ContainsFunc(row, head) {
		return
	}
	first := row[slices.IndexFunc(row, counts)]
	base := first.From - w.row
	if head(first) {
		base--
	}
	for w.at < len(w.b) && !isMark.Match(w.b[w.at:]) {
		rest := w.b[w.at:]
		if !isEmptyRow.Match(rest) && size(isIndent, rest) <= base {
			return
		}
		w.put(api.TText, size(isWholeRow, rest))
	}
}

// first is the first of the chapter's thirteen that fits.
func (w *reading) first() (kind, n int) {
	rest := w.b[w.at:]
	begins := w.at == w.row
	if n := size(isMark, rest); n > 0 && begins {
		return map[byte]int{'-': api.TStart, '.': api.TEnd}[rest[0]], n
	}
	ahead := 0
	if !begins {
		ahead = w.l[len(w.l)-1].Kind
	}
	signs := map[byte]int{'[': api.TOpenSeq, '{': api.TOpenMap, ']': api.TEndSeq, '}': api.TEndMap}
	if w.open > 0 {
		signs[','] = api.TComma
	}
	sign := 0
	if signs[rest[0]] != 0 {
		sign = 1
	}
	for _, x := range []struct {
		fits    bool
		kind, n int
	}{
		{true, api.TBreak, size(isBreak, rest)},
		{begins, api.TIndent, size(isIndent, rest)},
		{true, api.TBlank, size(isBlank, rest)},
		{begins || ahead == api.TIndent || ahead == api.TBlank, api.TComment, size(isComment, rest)},
		{true, signs[rest[0]], sign},
		{w.open == 0 && w.dashMay(), api.TDash, size(isDash, rest)},
		{true, api.TColon, w.colon(w.at)},
		{true, api.TAnchor, size(isAnchor, rest)},
		{true, api.TAlias, size(isAlias, rest)},
		{true, api.TTag, size(isTag, rest)},
		{true, api.TSingle, size(isSingle, rest)},
		{true, api.TDouble, size(isDouble, rest)},
		{w.open == 0, api.THead, size(isHead, rest)},
		{w.bad[w.at], api.TBad, 1},
	} {
		if x.fits && x.n > 0 {
			return x.kind, x.n
		}
	}
	return api.TPlain, w.plain()
}

func (w *reading) colon(at int) int {
	if w.open > 0 {
		return size(isColonIn, w.b[at:])
	}
	return size(isColon, w.b[at:])
}

// dashMay: on the row only TIndent, TBlank, TDash stand ahead, from its beginning, or behind TStart.
func (w *reading) dashMay() bool {
	row := w.l[w.from:]
	if len(row) > 0 && row[0].Kind == api.TStart {
		row = row[1:]
	}
	return !slices.ContainsFunc(row, func(t api.Token) bool {
		return !slices.Contains([]int{api.TIndent, api.TBlank, api.TDash}, t.Kind)
	})
}

// plain is how many bytes a TPlain has at the place.
func (w *reading) plain() int {
	_, n := runes.Next(w.b[w.at:])
	end := w.at + n
	for end < len(w.b) && !w.endsPlain(end) {
		end++
	}
	for w.b[end-1] == ' ' || w.b[end-1] == '\t' {
		end--
	}
	return end - w.at
}

func (w *reading) endsPlain(at int) bool {
	c := w.b[at]
	switch {
	case c == '\r', c == '\n', w.bad[at], w.colon(at) > 0:
		return true
	case c == '#':
		return w.b[at-1] == ' ' || w.b[at-1] == '\t'
	case c == ',', c == '[', c == ']', c == '{', c == '}':
		return w.open > 0
	}
	return false
}

func checkWords(t *testing.T, b []byte) []api.Token {
	t.Helper()
	got := Tokens(b)
	if want := wanted(b); !slices.Equal(got, want) {
		t.Fatalf("P601: Tokens of %q:\n%q, not\n%q", b, shown(string(b), got), shown(string(b), want))
	}
	if !Whole(got, len(b)) || !wholeByBytes(got, len(b)) {
		t.Fatalf("P602: Tokens of %q: %v", b, got)
	}
	return got
}

// checkEvery holds a text, and all that it makes with up to some count of pieces behind it, against the words.
func checkEvery(t *testing.T, text []byte, pieces []string, count int) {
	t.Helper()
	checkWords(t, text)
	if count == 0 {
		return
	}
	for _, p := range pieces {
		checkEvery(t, slices.Concat(text, []byte(p)), pieces, count-1)
	}
}

func TestEveryShortText(t *testing.T) {
	checkEvery(t, nil, []string{"-", ":", " ", "\t", "\n", "#", ",", "[", "}", "&", "!", "'", "\"", "\\", "|", "+", "a", "\xff"}, 4)
}

func TestEveryRowOfPieces(t *testing.T) {
	checkEvery(t, nil, []string{"---", "...", "\n", "\r\n", " ", "|", ">-", "a", "- ", "#"}, 5)
	checkEvery(t, nil, []string{"'", "\"", "\\", "a", "\n"}, 7)
	checkEvery(t, nil, []string{"[", "]", ",", ":", "a", " ", "\n"}, 6)
}

func TestEveryTwoBytes(t *testing.T) {
	for _, ahead := range []string{"", "a", "[a", "|\n"} {
		for two := range 1 << 16 {
			checkWords(t, append([]byte(ahead), byte(two>>8), byte(two)))
		}
	}
}

// die throws pieces, always the same ones.
type die uint32

func (d *die) of(n int) int {
	*d = *d*1664525 + 1013904223
	return int(*d>>8) % n
}

// P602: whatever the bytes are.
func TestWildTexts(t *testing.T) {
	pieces := []string{"---", "...", "--- ", "\n", "\n", "\n", "\r", "\r\n", " ", " ", "  ", "\t", "#", "- ", "-", ": ", ":", ",", "[", "]", "{", "}", "&a", "*b", "!", "&", "*", "'", "''", "\"", "\\", "|\n", ">-\n", "|", ">", "+", "a", "b c", "\xc3\xa9", "\xef\xbf\xbd", "\xff", "\xc3", "\xf0\x9f\x98", "\x00"}
	d := die(6)
	var seen [23]int
	for range 30000 {
		var b []byte
		for range d.of(40) {
			b = append(b, pieces[d.of(len(pieces))]...)
		}
		for _, k := range checkWords(t, b) {
			seen[k.Kind]++
		}
	}
	for kind := api.TBreak; kind <= api.TBad; kind++ {
		if seen[kind] < 500 {
			t.Errorf("only %d tokens of kind %d were met", seen[kind], kind)
		}
	}
	for range 3000 {
		b := make([]byte, d.of(200))
		for i := range b {
			b[i] = byte(d.of(256))
		}
		checkWords(t, b)
	}
}
