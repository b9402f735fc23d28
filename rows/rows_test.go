package rows

import (
	"fmt"
	"math"
	"slices"
	"strings"
	"testing"

	"corrector/api"
	"corrector/scan"
)

// names are what rows are called in these tests, by their kinds.
var names = []string{"", "blank", "text", "flow", "mark", "body"}

// shown are rows by their names, each with its column and its bytes.
func shown(b string, l []api.Token, rows []api.Row) string {
	var out []string
	for _, r := range rows {
		text := ""
		for _, token := range l[r.From:r.To] {
			text += b[token.From:token.To]
		}
		out = append(out, fmt.Sprintf("%s %d<%s>", names[r.Kind], r.Col, text))
	}
	return strings.Join(out, " ")
}

type sample struct{ b, want string }

func checkRows(t *testing.T, l []sample) {
	t.Helper()
	for _, x := range l {
		tokens := scan.Tokens([]byte(x.b))
		if got := shown(x.b, tokens, Rows([]byte(x.b), tokens)); got != x.want {
			t.Errorf("P901: Rows of %q:\n%q, not\n%q", x.b, got, x.want)
		}
	}
}

func TestRowsOfBodies(t *testing.T) {
	checkRows(t, []sample{
		{"", ""},
		{"a", "body 0<a>"},
		{"a\n", "body 0<a\n>"},
		{"a\nb", "body 0<a\n> body 0<b>"},
		{"a\r\nb\rc\nd", "body 0<a\r\n> body 0<b\r> body 0<c\n> body 0<d>"},
		{"- a: b # c\n", "body 0<- a: b # c\n>"},
		{"  a\n", "body 2<  a\n>"},
		{"\ta\n", "body 1<\ta\n>"},
		{"  \t a\n", "body 4<  \t a\n>"},
		{"a\n   b\n c\n", "body 0<a\n> body 3<   b\n> body 1< c\n>"},
		{"a\r\n b", "body 0<a\r\n> body 1< b>"},
		// columns are in bytes, whatever stands there
		{"\u00e9\n \u00e9", "body 0<\u00e9\n> body 1< \u00e9>"},
		{"\xff\n  \xff", "body 0<\xff\n> body 2<  \xff>"},
		// whatever counts is a row's first one
		{":", "body 0<:>"}, {" -", "body 1< ->"}, {"  &a", "body 2<  &a>"}, {" *a", "body 1< *a>"},
		{" !", "body 1< !>"}, {" 'a", "body 1< 'a>"}, {" \"a", "body 1< \"a>"}, {"  |", "body 2<  |>"},
		{" \xff", "body 1< \xff>"}, {" [", "body 1< [>"}, {" {", "body 1< {>"}, {" ]", "body 1< ]>"}, {" }", "body 1< }>"},
		// what only looks like a mark
		{" ---", "body 1< --->"},
		{"---a", "body 0<---a>"},
		{"a ---", "body 0<a --->"},
	})
}

func TestRowsWithoutWhatCounts(t *testing.T) {
	checkRows(t, []sample{
		{"\n", "blank -1<\n>"},
		{"\r\n\r\n", "blank -1<\r\n> blank -1<\r\n>"},
		{"\n\n\r\r", "blank -1<\n> blank -1<\n> blank -1<\r> blank -1<\r>"},
		{" ", "blank -1< >"},
		{"\t", "blank -1<\t>"},
		{"  \t \n\t", "blank -1<  \t \n> blank -1<\t>"},
		{"#", "blank -1<#>"},
		{"# a: b\n", "blank -1<# a: b\n>"},
		{"  # a\n\t# b", "blank -1<  # a\n> blank -1<\t# b>"},
		{"a\n\nb\n \n# c\n  d", "body 0<a\n> blank -1<\n> body 0<b\n> blank -1< \n> blank -1<# c\n> body 2<  d>"},
	})
}

func TestRowsOfBlockTexts(t *testing.T) {
	checkRows(t, []sample{
		{"|\n a\n b", "body 0<|\n> text 0< a\n> text 0< b>"},
		{"a: |\n  b\n\n  c\nd", "body 0<a: |\n> text 0<  b\n> text 0<\n> text 0<  c\n> body 0<d>"},
		{"- >- # c\r\n   \r\n  a\r\n", "body 0<- >- # c\r\n> text 0<   \r\n> text 0<  a\r\n>"},
		{"|\n [\n a\n---", "body 0<|\n> text 0< [\n> text 0< a\n> mark 0<--->"},
		{"|\n # a\nb: c", "body 0<|\n> text 0< # a\n> text 0<b: c>"},
		{"|\n", "body 0<|\n>"},
		// what stands in them opens nothing, and a head within brackets is none
		{"a: |\n  [\nb", "body 0<a: |\n> text 0<  [\n> body 0<b>"},
		{"[ |\n a\n", "body 0<[ |\n> flow 1< a\n>"},
	})
}

func TestRowsWithinBrackets(t *testing.T) {
	checkRows(t, []sample{
		{"[\na", "body 0<[\n> flow 0<a>"},
		{"{\na", "body 0<{\n> flow 0<a>"},
		{"[a\n  b\n]\nc", "body 0<[a\n> flow 2<  b\n> flow 0<]\n> body 0<c>"},
		{"[]\na", "body 0<[]\n> body 0<a>"},
		{"a: {b: [\nc]\n}\nd", "body 0<a: {b: [\n> flow 0<c]\n> flow 0<}\n> body 0<d>"},
		// of whatever kind the brackets are
		{"[\n}\na", "body 0<[\n> flow 0<}\n> body 0<a>"},
		{"{\n]\na", "body 0<{\n> flow 0<]\n> body 0<a>"},
		{"[{\n]\n]\na", "body 0<[{\n> flow 0<]\n> flow 0<]\n> body 0<a>"},
		// without what counts, too
		{"[\n\n # a\n\t\n", "body 0<[\n> flow -1<\n> flow -1< # a\n> flow -1<\t\n>"},
		{"[\n  ", "body 0<[\n> flow -1<  >"},
		// at its beginning: what opens on a row is open on the next one
		{"[a]\n[b\n]\n", "body 0<[a]\n> body 0<[b\n> flow 0<]\n>"},
		{"[\n] [\na", "body 0<[\n> flow 0<] [\n> flow 0<a>"},
		// not fewer than 0
		{"]\na", "body 0<]\n> body 0<a>"},
		{"]]\n[\na", "body 0<]]\n> body 0<[\n> flow 0<a>"},
		{"] [\na", "body 0<] [\n> flow 0<a>"},
		{"[]]]\n[\n}\na", "body 0<[]]]\n> body 0<[\n> flow 0<}\n> body 0<a>"},
		// dashes and keys within
		{"[\n- a: b\n c: d\n", "body 0<[\n> flow 0<- a: b\n> flow 1< c: d\n>"},
		// brackets that are part of texts
		{"a[\nb", "body 0<a[\n> body 0<b>"},
		{"'[' # [\nb", "body 0<'[' # [\n> body 0<b>"},
	})
}

func TestRowsOfMarks(t *testing.T) {
	checkRows(t, []sample{
		{"---", "mark 0<--->"},
		{"...", "mark 0<...>"},
		{"---\n...\r\n", "mark 0<---\n> mark 0<...\r\n>"},
		{"--- a: b\n... # c", "mark 0<--- a: b\n> mark 0<... # c>"},
		{"--- - a\n", "mark 0<--- - a\n>"},
		{"a\n---\nb", "body 0<a\n> mark 0<---\n> body 0<b>"},
		// none is open behind it, whatever was
		{"[\n---\na", "body 0<[\n> mark 0<---\n> body 0<a>"},
		{"{[[\n...\n\na", "body 0<{[[\n> mark 0<...\n> blank -1<\n> body 0<a>"},
		{"[\n---\n]\n[\na", "body 0<[\n> mark 0<---\n> body 0<]\n> body 0<[\n> flow 0<a>"},
		// but what is opened behind it on its row
		{"--- [\na\n]\nb", "mark 0<--- [\n> flow 0<a\n> flow 0<]\n> body 0<b>"},
		{"[[\n--- [\n]\na", "body 0<[[\n> mark 0<--- [\n> flow 0<]\n> body 0<a>"},
		// its block text
		{"--- |\n a\n...", "mark 0<--- |\n> text 0< a\n> mark 0<...>"},
	})
}

// began are the entries of a text's first row, each with its column and its tokens, and where the rest begins.
func began(b string) string {
	l := scan.Tokens([]byte(b))
	list := Rows([]byte(b), l)
	if len(list) == 0 {
		return ""
	}
	entries, rest := Entries([]byte(b), l, list[0])
	return told(entries, rest)
}

func told(entries []Entry, rest int) string {
	out := ""
	for _, e := range entries {
		word := "key"
		if e.Dash {
			word = "dash"
		}
		out += fmt.Sprintf("%s %d %d-%d, ", word, e.Col, e.From, e.To)
	}
	return out + fmt.Sprint(rest)
}

func checkEntries(t *testing.T, l []sample) {
	t.Helper()
	for _, x := range l {
		if got := began(x.b); got != x.want {
			t.Errorf("P902: Entries of %q: %s, not %s", x.b, got, x.want)
		}
	}
}

func TestEntriesOfDashes(t *testing.T) {
	checkEntries(t, []sample{
		{"-", "dash 0 0-1, 1"},
		{"-\n", "dash 0 0-1, 1"},
		{"- a", "dash 0 0-1, 1"},
		{"  - a", "dash 2 1-2, 2"},
		{"\t- a", "dash 1 1-2, 2"},
		{"  \t- a", "dash 3 2-3, 3"},
		{"- - -", "dash 0 0-1, dash 2 2-3, dash 4 4-5, 5"},
		{"-   -\t- ", "dash 0 0-1, dash 4 2-3, dash 6 4-5, 5"},
		{"- # a", "dash 0 0-1, 1"},
		{"- -# a", "dash 0 0-1, 1"},
		{"- -a", "dash 0 0-1, 1"},
		{"- [a]", "dash 0 0-1, 1"},
		{"- |\n a", "dash 0 0-1, 1"},
		{"- &a - b", "dash 0 0-1, 1"},
		{"- 'a' - b", "dash 0 0-1, 1"},
	})
}

func TestEntriesOfKeys(t *testing.T) {
	checkEntries(t, []sample{
		{"a:", "key 0 0-2, 2"},
		{"a: b", "key 0 0-2, 2"},
		{"a:\n", "key 0 0-2, 2"},
		{"  a: b", "key 2 1-3, 3"},
		{"\ta: b", "key 1 1-3, 3"},
		{"a b \t: c", "key 0 0-3, 3"},
		{"'a': b", "key 0 0-2, 2"},
		{"\"a\" : b", "key 0 0-3, 3"},
		{"'a:\n", "0"},
		{"*a : b", "key 0 0-3, 3"},
		{":", "key 0 0-1, 1"},
		{"  : a", "key 2 1-2, 2"},
		{": : a", "key 0 0-1, 1"},
		{"a: b: c", "key 0 0-2, 2"},
		{"a: - b", "key 0 0-2, 2"},
		{"\u00e9 \u00e9: a", "key 0 0-2, 2"},
		// what is ahead of what is meant
		{"&a : b", "key 0 0-3, 3"},
		{"!a : b", "key 0 0-3, 3"},
		{"&a b: c", "key 0 0-4, 4"},
		{"!a &b !c &d 'e': f", "key 0 0-10, 10"},
		{" &a *b : c", "key 1 1-6, 6"},
		{"&a\t!b\t: c", "key 0 0-5, 5"},
	})
}

func TestEntriesOfDashesAndAKey(t *testing.T) {
	checkEntries(t, []sample{
		{"- - a: 1", "dash 0 0-1, dash 2 2-3, key 4 4-6, 6"}, // the chapter's example
		{"- a: b", "dash 0 0-1, key 2 2-4, 4"},
		{"  -\t&a b : - c", "dash 2 1-2, key 4 3-8, 8"},
		{"- :", "dash 0 0-1, key 2 2-3, 3"},
		{"- - : : a", "dash 0 0-1, dash 2 2-3, key 4 4-5, 5"},
		{"-  a :\r\n", "dash 0 0-1, key 3 2-5, 5"},
	})
}

func TestRowsWithoutEntries(t *testing.T) {
	checkEntries(t, []sample{
		{"a", "0"},
		{"  a", "1"},
		{"\ta # b", "1"},
		{"  \ta", "2"},
		{"&a", "0"},
		{"  &a !b\n", "1"},
		{"a:b", "0"},
		// two that are meant, or something ahead of the marks
		{"'a' 'b': c", "0"},
		{"'a' b: c", "0"},
		{"'a' *b : c", "0"},
		{"*a *b : c", "0"},
		{"'a' &b : c", "0"},
		{"'a' !b: c", "0"},
		{"&a 'b' !c : d", "0"},
		// what no key has
		{"[a]: b", "0"},
		{"{a: b", "0"},
		{"]: b", "0"},
		{" }: b", "1"},
		{"\xff: a", "0"},
		{"a\xff: b", "0"},
		{"&a \xff: b", "0"},
		{"a #: b", "0"},
		{"&a # : b", "0"},
		{"&a [b]: c", "0"},
		{" |\n a: b", "1"},
		// other kinds of rows
		{"\n", "0"},
		{"  \n", "0"},
		{"  # a: b", "0"},
		{"--- a: b", "0"},
		{"--- - a", "0"},
		{"... a: b", "0"},
	})
}

// Rows that are not bodies have no entries, whatever stands on them.
func TestEntriesOfOtherRows(t *testing.T) {
	b := []byte("[\n  a: b\n  - c\n]\n\t\n--- - a: b\nc: |\n  a: b\n  - c\n\nd: e\n")
	l := scan.Tokens(b)
	want := map[int]string{0: "0", 6: "key 0 24-26, 26", 10: "key 0 32-34, 34"}
	list := Rows(b, l)
	if len(list) != 11 {
		t.Fatalf("P901: %d rows", len(list))
	}
	for i, r := range list {
		entries, rest := Entries(b, l, r)
		if want[i] == "" {
			want[i] = fmt.Sprint(r.From)
		}
		if got := told(entries, rest); got != want[i] {
			t.Errorf("P902: row %d: %s, not %s", i, got, want[i])
		}
	}
}

// P8, P1: of rows that there are not, and of bytes and tokens that do not belong together, nothing is asked but an end.
func TestRowsThatAreNone(t *testing.T) {
	b := []byte("  - a: b\n[\n] c\n")
	l := scan.Tokens(b)
	numbers := []int{math.MinInt, -2, -1, 0, 1, 2, 3, 5, len(l) - 1, len(l), len(l) + 1, math.MaxInt - 1, math.MaxInt}
	for _, from := range numbers {
		for _, to := range numbers {
			for kind := -1; kind <= api.RBody+1; kind++ {
				for _, tokens := range [][]api.Token{nil, l[:3], l} {
					for _, col := range []int{-1, 0, math.MaxInt} {
						Entries(b, tokens, api.Row{Kind: kind, From: from, To: to, Col: col})
					}
				}
			}
		}
	}
}

func TestTokensThatAreNone(t *testing.T) {
	places := []int{math.MinInt, -1, 0, 1, 7, math.MaxInt}
	kinds := []int{math.MinInt, -1, 0, 23, math.MaxInt}
	for kind := range api.TBad + 1 {
		kinds = append(kinds, kind)
	}
	d := die(9)
	for range 20000 {
		var l []api.Token
		for range d.of(8) {
			l = append(l, api.Token{Kind: kinds[d.of(len(kinds))], From: places[d.of(len(places))], To: places[d.of(len(places))]})
		}
		for _, r := range Rows(nil, l) {
			Entries([]byte("a"), l, r)
			Entries(nil, l, api.Row{Kind: api.RBody, From: r.From, To: d.of(len(l) + 1)})
		}
	}
}

// P2: tokens, bytes, and the room behind them, stay as they are, and answers share nothing with them.
func TestWhatIsHandedInIsNotChanged(t *testing.T) {
	text := "- - a: b\n[c\n]\n\n--- d\ne: |\n f\n"
	b := []byte(text)
	room := scan.Tokens(b)
	before := slices.Clone(room)
	for from := range room {
		for to := from; to <= len(room); to++ {
			l := room[from:to]
			list := Rows(b[:len(b)/2], l)
			for _, r := range list {
				entries, _ := Entries(b[:len(b)/2], l, r)
				clear(entries[:cap(entries)])
			}
			clear(list[:cap(list)])
		}
	}
	if !slices.Equal(room, before) || string(b) != text {
		t.Errorf("P2: %v became %v, or %q did: %q", before, room, text, b)
	}
}

// P2, P3: what is done to an answer does not change the next one, and nothing is kept from call to call.
func TestAnswersAreTheSameAgain(t *testing.T) {
	texts := []string{"[[\n", "a\n\n", "- - a: b", "---\n]", "a: |\n b\n c"}
	for range 3 {
		for _, text := range texts {
			b := []byte(text)
			l := scan.Tokens(b)
			list := Rows(b, l)
			first := slices.Clone(list)
			entries, rest := Entries(b, l, first[0])
			before := told(entries, rest)
			clear(list[:cap(list)])
			clear(entries[:cap(entries)])
			if again := Rows(b, l); !slices.Equal(again, first) {
				t.Errorf("P3: Rows of %q: %v, then %v", text, first, again)
			}
			if again := began(text); again != before {
				t.Errorf("P3: Entries of %q: %s, then %s", text, before, again)
			}
		}
	}
}

// P1: all ends in time, however long it is.
func TestLongestTexts(t *testing.T) {
	for _, piece := range []string{"\n", " ", "a", "- ", "a: ", "[", "]", "[]", "[\n", "]\n", "- a: b\n", "&a ", "!", "|\n", "---\n", " # a\n", "\r\n", "\xff", "'\n"} {
		b := []byte(strings.Repeat(piece, api.MaxText/len(piece)))
		l := scan.Tokens(b)
		checkTokens(t, b, l)
		b = append([]byte("|\n"), b[:len(b)-2]...)
		checkTokens(t, b, scan.Tokens(b))
	}
}

// P1: lists have no length of their own.
func TestLongLists(t *testing.T) {
	const n = 1 << 20
	for _, x := range []struct {
		kind, rows, entries int
	}{
		{api.TBreak, n, 0}, {api.TText, n, 0}, {api.TDash, 1, n}, {api.TColon, 1, 1}, {api.TAnchor, 1, 0},
		{api.TBlank, 1, 0}, {api.TOpenSeq, 1, 0}, {api.TEndMap, 1, 0}, {api.TStart, 1, 0}, {api.TPlain, 1, 0},
	} {
		l := make([]api.Token, n)
		for i := range l {
			l[i] = api.Token{Kind: x.kind, From: i, To: i + 1}
		}
		list := Rows(nil, l)
		if len(list) != x.rows {
			t.Errorf("P901: %d tokens of kind %d: %d rows", n, x.kind, len(list))
		}
		if e, _ := Entries(nil, l, list[0]); len(e) != x.entries {
			t.Errorf("P902: %d tokens of kind %d: %d entries", n, x.kind, len(e))
		}
	}
}
