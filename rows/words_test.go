package rows

import (
	"regexp"
	"slices"
	"strings"
	"testing"

	"corrector/api"
	"corrector/scan"
)

// letters are the kinds of tokens, a letter each, from 0 on.
const letters = "?nibc-:,[{]}&*!p'\"hTSEx"

// The chapter's words as they stand there, on the letters of tokens.
var (
	aRow      = regexp.MustCompile(`[^nT]*[nT]|[^nT]+\z`)
	isText    = regexp.MustCompile(`\AT`)
	isMarked  = regexp.MustCompile(`\A[nibc]*[SE]`)
	isNothing = regexp.MustCompile(`\A[nibc]*\z`)
	uncounted = regexp.MustCompile(`\A[nibc]*`)
	aDash     = regexp.MustCompile(`\Ab*-`)
	aKey      = regexp.MustCompile(`\Ab*((?:[&!]b*)*(?:[p'"*]b*)?:)`)
)

// written are tokens by their letters.
func written(l []api.Token) string {
	out := make([]byte, len(l))
	for i, token := range l {
		out[i] = letters[token.Kind]
	}
	return string(out)
}

// openBehind is how many brackets are open behind tokens: as many as some last ones of them, behind the last mark, open more than they end.
func openBehind(word string) int {
	most, open := 0, 0
	for i := len(word) - 1; i >= 0 && word[i] != 'S' && word[i] != 'E'; i-- {
		switch {
		case strings.IndexByte("[{", word[i]) >= 0:
			open++
		case strings.IndexByte("]}", word[i]) >= 0:
			open--
		}
		most = max(most, open)
	}
	return most
}

// wantedKind is P901's kind by its words, of a row and all that stands ahead of it.
func wantedKind(row, ahead string) int {
	switch {
	case isText.MatchString(row):
		return api.RText
	case isMarked.MatchString(row):
		return api.RMark
	case openBehind(ahead) > 0:
		return api.RFlow
	case isNothing.MatchString(row):
		return api.RBlank
	}
	return api.RBody
}

// wantedRows is P901's Rows by its words.
func wantedRows(l []api.Token) []api.Row {
	word := written(l)
	var out []api.Row
	for _, m := range aRow.FindAllStringIndex(word, -1) {
		row := word[m[0]:m[1]]
		r := api.Row{Kind: wantedKind(row, word[:m[0]]), From: m[0], To: m[1], Col: -1}
		if at := m[0] + len(uncounted.FindString(row)); at < m[1] {
			r.Col = l[at].From - l[m[0]].From
		}
		out = append(out, r)
	}
	return out
}

// wantedEntries is P902's Entries by its words, of one of Rows.
func wantedEntries(l []api.Token, r api.Row) (out []Entry, rest int) {
	if r.Kind != api.RBody {
		return nil, r.From
	}
	word := written(l)
	rest = r.From + len(uncounted.FindString(word[r.From:r.To]))
	enter := func(dash bool, from, to int) {
		out = append(out, Entry{Dash: dash, Col: l[from].From - l[r.From].From, From: from, To: to})
		rest = to
	}
	for {
		m := aDash.FindStringIndex(word[rest:r.To])
		if m == nil {
			break
		}
		enter(true, rest+m[1]-1, rest+m[1])
	}
	if m := aKey.FindStringSubmatchIndex(word[rest:r.To]); m != nil {
		enter(false, rest+m[2], rest+m[3])
	}
	return out, rest
}

// checkTokens holds the rows of tokens, and the entries of each, against the words.
func checkTokens(t *testing.T, b []byte, l []api.Token) {
	t.Helper()
	list, want := Rows(b, l), wantedRows(l)
	if !slices.Equal(list, want) {
		t.Fatalf("P901: Rows of %q: %v, not %v", short(l), list, want)
	}
	at := 0
	for _, r := range list {
		if r.From != at || r.To <= at {
			t.Fatalf("P903: Rows of %q: %v", short(l), list)
		}
		at = r.To
		got, rest := Entries(b, l, r)
		entries, wanted := wantedEntries(l, r)
		if !slices.Equal(got, entries) || rest != wanted {
			t.Fatalf("P902: Entries of %q, %v: %v, %d, not %v, %d", short(l), r, got, rest, entries, wanted)
		}
	}
	if at != len(l) {
		t.Fatalf("P903: Rows of %q: up to %d of %d", short(l), at, len(l))
	}
}

// short are the letters of not too many tokens.
func short(l []api.Token) string {
	return written(l[:min(len(l), 60)])
}

// lettered are tokens of letters, of sizes that differ.
func lettered(word string) []api.Token {
	var l []api.Token
	at := 0
	for i := range len(word) {
		size := 1 + i%3
		l = append(l, api.Token{Kind: strings.IndexByte(letters, word[i]), From: at, To: at + size})
		at += size
	}
	return l
}

// everyWord calls do with each word of up to some count of signs.
func everyWord(signs string, count int, do func(s string)) {
	words := []string{""}
	for range count + 1 {
		var longer []string
		for _, s := range words {
			do(s)
			for i := range len(signs) {
				longer = append(longer, s+signs[i:i+1])
			}
		}
		words = longer
	}
}

// The words hold for tokens of all kinds, whether scan puts them so or not.
func TestEveryFewTokens(t *testing.T) {
	check := func(word string) { checkTokens(t, nil, lettered(word)) }
	everyWord(letters[1:], 3, check)
	everyWord("nbi-:[]&pTS", 4, check)
	everyWord("b-:&p", 6, check)
	everyWord("n[]S", 7, check)
	everyWord("ib-p:", 5, func(word string) { check("pn" + word + "n") })
}

// Of each kind it hangs on the kind alone whether it counts, ends a row, opens, or is part of a key.
func TestEveryKindAmidOthers(t *testing.T) {
	for _, x := range []string{"?", "? p", "?[n?n?", "[?n?p", "-?:", "-b?b:", "b?-p:", "i?b&b?b:b", "p?:", "&?b?:", "?b?b:", "-?-", "-b?b-b?b:", "S?np", "[n?S?]np", "]?n[?np", "hn?n?"} {
		for i := range len(letters) {
			for j := range len(letters) {
				word := strings.Replace(x, "?", letters[i:i+1], 1)
				word = strings.ReplaceAll(strings.ReplaceAll(word, "?", letters[j:j+1]), " ", "b")
				checkTokens(t, nil, lettered(word))
			}
		}
	}
}

func checkText(t *testing.T, text string) {
	t.Helper()
	checkTokens(t, []byte(text), scan.Tokens([]byte(text)))
}

func TestEveryShortText(t *testing.T) {
	everyWord(" \t\n-:a&[]#'", 4, func(s string) { checkText(t, s) })
	everyWord("\n []-:", 5, func(s string) { checkText(t, s) })
	everyWord("\n |a.", 5, func(s string) { checkText(t, "|\n"+s); checkText(t, "...\n"+s) })
}

// die throws, always the same.
type die uint32

func (d *die) of(n int) int {
	*d = *d*1664525 + 1013904223
	return int(*d>>8) % n
}

// found counts rows by their kinds, and dashes and keys.
type found struct{ kinds, entries [api.RBody + 1]int }

func (f *found) add(b []byte, l []api.Token) {
	for _, r := range Rows(b, l) {
		f.kinds[r.Kind]++
		entries, _ := Entries(b, l, r)
		f.entries[min(len(entries), api.RBody)]++
	}
}

func TestWildTexts(t *testing.T) {
	pieces := []string{
		" ", "  ", "\t", "\n", "\n", "\r\n", "\r", "\n  ", "- ", "\n- ", "\n - - ", "a: ", ": ", ":", "a", "b c", "'d'", "\"e\"", "'", "\"",
		"&a ", "!t ", "*a ", "[", "]", "{", "}", ",", "# c", "|", ">-\n", "\n---", "\n...", "---\n", "\xff", "\u00e9", "\x00",
	}
	d := die(901)
	var f found
	for range 40000 {
		text := ""
		for range d.of(24) {
			text += pieces[d.of(len(pieces))]
		}
		checkText(t, text)
		f.add([]byte(text), scan.Tokens([]byte(text)))
	}
	for range 10000 {
		b := make([]byte, d.of(40))
		for i := range b {
			b[i] = byte(d.of(256) >> d.of(4))
		}
		checkText(t, string(b))
	}
	// What is thrown has all kinds of rows, and rows of up to three entries.
	if slices.Min(f.kinds[1:]) < 1000 || slices.Min(f.entries[:4]) < 500 {
		t.Errorf("only %v rows by their kinds, %v by their entries", f.kinds, f.entries)
	}
}
