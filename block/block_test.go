package block

import (
	"slices"
	"strings"
	"testing"

	"corrector/api"
	"corrector/scan"
)

func checkText(t *testing.T, head string, lines []string, want string) {
	t.Helper()
	if got := Text(head, lines); got != want {
		t.Errorf("P801: Text of %q, %q: %q, not %q", head, lines, got, want)
	}
}

func TestTextOfEmptyLines(t *testing.T) {
	for _, lines := range [][]string{
		nil,
		{},
		{""},
		{"\n"},
		{"  "},
		{" \t \r\n"},
		{"\n", "   \n", "\t\r", "\r\n", " "},
		{"\na"}, // what stands behind a line's first break does not count
		{"\ra\n", " \r\n b"},
	} {
		for _, head := range []string{"|", "|-", ">", ">-"} {
			checkText(t, head, lines, "")
		}
		for _, head := range []string{"|+", ">+"} {
			checkText(t, head, lines, strings.Repeat("\n", len(lines)))
		}
	}
}

// Of each head what the text ends with; the lines between are told of below.
func TestTextEnds(t *testing.T) {
	for _, x := range []struct {
		lines            []string
		dash, none, plus string
	}{
		{[]string{"  a\n"}, "a", "a\n", "a\n"},
		{[]string{"  a"}, "a", "a\n", "a\n"}, // the last line's break may lack
		{[]string{"  a\n", "\n"}, "a", "a\n", "a\n\n"},
		{[]string{"  a\n", ""}, "a", "a\n", "a\n\n"},
		{[]string{"  a\n", "     \n"}, "a", "a\n", "a\n\n"}, // no content of an empty one behind
		{[]string{"  a\n", "\t\n", "\r\n", "   "}, "a", "a\n", "a\n\n\n\n"},
		{[]string{"  a  \n"}, "a  ", "a  \n", "a  \n"}, // blanks at the content's end are of it
		{[]string{"\n", "  a\n", "\n"}, "\na", "\na\n", "\na\n\n"},
	} {
		for _, sign := range []string{"|", ">"} {
			checkText(t, sign+"-", x.lines, x.dash)
			checkText(t, sign, x.lines, x.none)
			checkText(t, sign+"+", x.lines, x.plus)
		}
	}
}

func TestTextOfLinesThatStay(t *testing.T) {
	for _, x := range []struct {
		lines []string
		want  string
	}{
		{[]string{"  a\n", "  b\n"}, "a\nb"},
		{[]string{"a\n", "b\n"}, "a\nb"},
		{[]string{"  a\r\n", "  b\r", "  c\n"}, "a\nb\nc"},
		{[]string{"  a\n", "\n", "\n", "  b\n"}, "a\n\n\nb"},
		// the indent is the first line's that is not empty; more spaces are of the content, fewer are gone
		{[]string{"  a\n", "    b\n", " c\n", "d\n"}, "a\n  b\nc\nd"},
		{[]string{"    a\n", "  b\n"}, "a\nb"},
		{[]string{"     \n", "  a\n", "   b\n"}, "   \na\n b"},
		{[]string{"  a\n", "   \n", "  b\n"}, "a\n \nb"}, // contents of empty ones count
		{[]string{"  a\n", "  \t\n", " \t\n", "\t\n", "b\n"}, "a\n\t\n\t\n\t\nb"},
		{[]string{" \n", "\t \n", "  a\n"}, "\n\t \na"},
		// a tab is no space
		{[]string{"\ta\n", " \tb\n"}, "\ta\n \tb"},
		{[]string{" \ta\n", "  b\n", "\tc\n"}, "\ta\n b\n\tc"},
		// what stands behind the first break of a line does not count
		{[]string{"  a\n  b\n", "  c\rd"}, "a\nc"},
		{[]string{"  a\n\r\n", "\n  b"}, "a"},
		// other signs neither end a line nor are blanks
		{[]string{" a\x0bb\x0cc\u0085d\u2028e\n", " \u00a0\n", " \x00\n", " \x0b\n"}, "a\x0bb\x0cc\u0085d\u2028e\n\u00a0\n\x00\n\x0b"},
		{[]string{" \xff\xc3\n", " \xa9\n"}, "\xff\xc3\n\xa9"},
		{[]string{"  |-\n", "  - a: 'b' # c\n", "  ---\n"}, "|-\n- a: 'b' # c\n---"},
	} {
		checkText(t, "|-", x.lines, x.want)
		checkText(t, "|", x.lines, x.want+"\n")
	}
}

func TestTextOfLinesThatAreFolded(t *testing.T) {
	checkText(t, ">", []string{"  a", "  b"}, "a b\n") // the chapter's example
	for _, x := range []struct {
		lines []string
		want  string
	}{
		{[]string{"  a\n", "  b\n", "  c\n"}, "a b c"},
		{[]string{"  a\r\n", "  b\r", "  c"}, "a b c"},
		{[]string{"  a \n", "  b\t\n", "  c\n"}, "a  b\t c"}, // blanks at an end are of the content
		// k empty lines between: k line feeds
		{[]string{"  a\n", "\n", "  b\n"}, "a\nb"},
		{[]string{"  a\n", "\n", "\n", "\n", "  b\n"}, "a\n\n\nb"},
		{[]string{"  a\n", "      \n", "\t\n", "  b\n"}, "a\n\nb"}, // whose contents do not count
		// a content that begins with a blank, on either side or on both: k + 1
		{[]string{"  a\n", "   b\n", "  c\n"}, "a\n b\nc"},
		{[]string{"  a\n", "   b\n", "    c\n", "  d\n"}, "a\n b\n  c\nd"},
		{[]string{"  a\n", "\n", "   b\n", "\n", "\n", "  c\n"}, "a\n\n b\n\n\nc"},
		{[]string{"  a\n", "  \tb\n", "  c\n"}, "a\n\tb\nc"},
		{[]string{"\ta\n", "b\n", "c\n"}, "\ta\nb c"},
		{[]string{"  a\n", "  b\n", "   c\n", "  d\n", "  e\n"}, "a b\n c\nd e"},
		// fewer spaces than the indent leave no blank at the beginning
		{[]string{"  a\n", " b\n", "c\n"}, "a b c"},
		{[]string{"  a\n", " \tb\n", "c\n"}, "a\n\tb\nc"},
		// ahead of the first that is not empty: a line feed each, whatever it begins with
		{[]string{"\n", "  a\n", "  b\n"}, "\na b"},
		{[]string{"\n", "     \n", "\t\n", "  a\n"}, "\n\n\na"},
		{[]string{"\n", "\n", "\ta\n", "b\n"}, "\n\n\ta\nb"},
		// what stands behind the first break of a line does not count
		{[]string{"  a\n\n   b\n", "  c\n"}, "a c"},
		{[]string{"  a\n", "\nb", "  c\n"}, "a\nc"},
		// other signs are no blanks
		{[]string{" a\n", " \u00a0b\n", " \x0bc\n", " \xffd\n"}, "a \u00a0b \x0bc \xffd"},
	} {
		checkText(t, ">-", x.lines, x.want)
		checkText(t, ">", x.lines, x.want+"\n")
	}
}

// P802: what lines are made of is what `|-` says of them, whatever it is.
func TestContentsStandAsTheyAre(t *testing.T) {
	pieces := []string{"a", "b", "\t", " ", "  ", "#", "'", "\\n", ": ", "- ", "|", "+", "\x00", "\u00e9", "\xff", "\xc3", "\u2028"}
	d := die(802)
	for range 20000 {
		contents := []string{"a"}
		for range d.of(6) {
			content := ""
			for range d.of(5) {
				content += d.piece(pieces)
			}
			contents = append(contents, content)
		}
		contents = append(contents, "b")
		var lines []string
		width := d.of(4)
		for _, content := range contents {
			lines = append(lines, strings.Repeat(" ", width)+content+d.piece([]string{"\n", "\r\n", "\r", ""}))
		}
		want := strings.Join(contents, "\n")
		if got := Text("|-", lines); got != want {
			t.Fatalf("P802: Text of |-, %q: %q, not %q", lines, got, want)
		}
		for _, x := range []struct{ head, more string }{{"|", "\n"}, {"|+", "\n\n\n"}} {
			if got := Text(x.head, append(lines, "\n", " ")); got != want+x.more {
				t.Fatalf("P801: Text of %s, %q: %q, not %q", x.head, lines, got, want+x.more)
			}
		}
	}
}

// blockToken is of a text with one block text in it its THead, and the TTexts behind.
func blockToken(text string) (head string, lines []string) {
	for _, k := range scan.Tokens([]byte(text)) {
		switch token := text[k.From:k.To]; k.Kind {
		case api.THead:
			head = token
		case api.TText:
			lines = append(lines, token)
		}
	}
	return head, lines
}

func TestTextOfTokens(t *testing.T) {
	for _, x := range []struct{ text, want string }{
		{"|\n a\n b\n", "a\nb\n"},
		{"|- # of two lines\n a\n b", "a\nb"},
		{"a: |+\r\n  b\r\n\r\n  c\r\n\r\n", "b\n\nc\n\n"},
		{"a: >\n  b\n  c\n\n  d\n   e\nf: 1", "b c\nd\n e\n"},
		{"- >-\n\n  a\r  b\r\n\n--- c", "\na b"},
		{">+\n\n \n... ", "\n\n"},
		{"a: |-\n  ---\n  ...\n---", "---\n..."},
		{"a: |", ""},
		{"a: |+", ""},
	} {
		head, lines := blockToken(x.text)
		checkText(t, head, lines, x.want)
	}
}

// What scan answers is what Text is handed: all of it is read by the words.
func TestTextOfWildTokens(t *testing.T) {
	pieces := []string{"\n", "\n   ", "\r\n    ", "\r   ", "\n   a", " ", "\t", "b", "c d", "#", "---", "\xff", "\u00e9"}
	d := die(801)
	found := 0
	for range 20000 {
		want := d.piece(heads)
		text := d.piece([]string{"", "- ", "a: ", "  b: "}) + want + d.piece([]string{"\n", "\r\n", " # e\r"})
		for range d.of(20) {
			text += d.piece(pieces)
		}
		head, lines := blockToken(text)
		if head != want {
			t.Fatalf("the head of %q: %q", text, head)
		}
		found += len(lines)
		checkLines(t, lines)
	}
	if found < 40000 {
		t.Errorf("only %d lines", found)
	}
}

// P1, P8: whatever is handed in as a head, it ends.
func TestHeadsThatAreNone(t *testing.T) {
	rows := [][]string{nil, {""}, {"\n", " "}, {" a\n", "b\n"}, {"\n", " a", "\n", "  b\n", "\n"}, {"\xff", "\x00"}}
	for _, head := range []string{"", "+", "-", "a", "\n", " |", "||", "|>", "|+-", "|-+", ">|", "|2", "> # a", "\xff", "\u00e9"} {
		for _, lines := range rows {
			before := slices.Clone(lines)
			if got := Text(head, lines); got != Text(head, lines) || !slices.Equal(lines, before) {
				t.Errorf("P2, P3: Text of %q, %q: %q, and then another one, or the lines are changed", head, before, got)
			}
		}
	}
}

// P2: lines, and the room behind them, stay as they are.
func TestLinesAreNotChanged(t *testing.T) {
	room := []string{"x", "\n", "  a\r\n", "\n", "   b\n", " \n", "c\n", "\n", "\n", "y", "z"}
	before := slices.Clone(room)
	for from := range room {
		for to := from; to <= len(room); to++ {
			for _, head := range heads {
				Text(head, room[from:to])
			}
		}
	}
	if !slices.Equal(room, before) {
		t.Errorf("P2: %q became %q", before, room)
	}
}

// P3: nothing is kept from call to call.
func TestTextAnswersTheSameAgain(t *testing.T) {
	rows := [][]string{{"   a\n", "b\n"}, nil, {"\n", " \n"}, {" a\n", "\n", "  b\n", "\n"}, {"\t\n", "\tc"}}
	for range 3 {
		for _, lines := range rows {
			checkLines(t, lines)
		}
	}
}

// P1: all ends in time, however many lines there are, however long they are.
func TestLongTexts(t *testing.T) {
	const n = 1 << 20
	same := func(line string, count int) []string { return slices.Repeat([]string{line}, count) }
	as := strings.Repeat("a", n)
	for _, x := range []struct {
		head  string
		lines []string
		want  string
	}{
		{"|-", same(" a\n", n), as[:1] + strings.Repeat("\na", n-1)},
		{">-", same(" a\n", n), as[:1] + strings.Repeat(" a", n-1)},
		{">", same("\ta\n", n), strings.Repeat("\ta\n", n)},
		{"|+", same("  \n", n), feeds(n)},
		{">", same("  \n", n), ""},
		{">+", append([]string{" a\n"}, same("  \n", n)...), "a" + feeds(n+1)},
		{">-", append(same("\n", n), " a\n"), feeds(n) + "a"},
		{">-", append(append([]string{" a\n"}, same(" \t\n", n)...), " b\n"), "a" + feeds(n) + "b"},
		{"|-", append(same("\n", n), " a\n"), feeds(n) + "a"},
		{"|", []string{as}, as + "\n"},
		{">", []string{strings.Repeat(" ", n) + as + "\n", as}, as + " " + as + "\n"},
		{">", []string{"a\n", strings.Repeat(" ", n) + "b\n"}, "a\n" + strings.Repeat(" ", n) + "b\n"},
		{"|-", []string{"a\n" + as, "\r" + as, "b"}, "a\n\nb"},
	} {
		if got := Text(x.head, x.lines); got != x.want {
			t.Errorf("P801: Text of %q, %q ..: %d bytes, not %d", x.head, x.lines[0][:1], len(got), len(x.want))
		}
	}
}
