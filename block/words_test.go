package block

import (
	"regexp"
	"slices"
	"strings"
	"testing"
)

// heads are all that a THead may be.
var heads = []string{"|", "|+", "|-", ">", ">+", ">-"}

// The chapter's lines as they stand there, by expressions.
var (
	ownPart    = regexp.MustCompile(`\A[^\r\n]*`)
	emptyLine  = regexp.MustCompile(`\A[ \t]*(?:\r\n|\n|\r|\z)`)
	spacePart  = regexp.MustCompile(`\A *`)
	blankFirst = regexp.MustCompile(`\A[ \t]`)
)

// wantedContents is of each line its content, and the places of those that are not empty.
func wantedContents(lines []string) (contents []string, full []int) {
	for i, line := range lines {
		contents = append(contents, ownPart.FindString(line))
		if !emptyLine.MatchString(line) {
			full = append(full, i)
		}
	}
	if len(full) == 0 {
		return contents, nil
	}
	for range len(spacePart.FindString(contents[full[0]])) {
		for i := range contents {
			contents[i] = strings.TrimPrefix(contents[i], " ")
		}
	}
	return contents, full
}

// wantedText is P801's Text by its words.
func wantedText(head string, lines []string) string {
	contents, full := wantedContents(lines)
	if len(full) == 0 {
		if head[1:] == "+" {
			return feeds(len(lines))
		}
		return ""
	}
	last := full[len(full)-1]
	text := ""
	if head[0] == '|' {
		for i := range last {
			text += contents[i] + "\n"
		}
		text += contents[last]
	} else {
		text = feeds(full[0]) + contents[full[0]]
		for n := 1; n < len(full); n++ {
			one, other := contents[full[n-1]], contents[full[n]]
			text += wantedBetween(one, other, full[n]-full[n-1]-1) + other
		}
	}
	switch head[1:] {
	case "-":
		return text
	case "+":
		return text + feeds(1+len(lines)-(last+1))
	}
	return text + feeds(1)
}

// wantedBetween is what stands between two contents, behind `>`, with k empty lines between.
func wantedBetween(one, other string, k int) string {
	switch either := blankFirst.MatchString(one) || blankFirst.MatchString(other); {
	case either:
		return feeds(k + 1)
	case k == 0:
		return " "
	}
	return feeds(k)
}

func feeds(count int) string {
	return strings.Repeat("\n", count)
}

// checkLines holds lines, behind each head, against the words.
func checkLines(t *testing.T, lines []string) {
	t.Helper()
	before := slices.Clone(lines)
	for _, head := range heads {
		if got, want := Text(head, lines), wantedText(head, before); got != want {
			t.Fatalf("P801: Text of %q, %q: %q, not %q", head, before, got, want)
		}
	}
	if !slices.Equal(lines, before) {
		t.Fatalf("P2: lines %q are changed: %q", before, lines)
	}
}

// checkEvery holds lines, and all that there are with up to some count of others behind them, against the words.
func checkEvery(t *testing.T, lines, others []string, count int) {
	t.Helper()
	checkLines(t, lines)
	if count == 0 {
		return
	}
	for _, other := range others {
		checkEvery(t, append(lines[:len(lines):len(lines)], other), others, count-1)
	}
}

func TestEveryFewLines(t *testing.T) {
	checkEvery(t, nil, []string{
		"", "\n", " \n", "   \r", "\t\r\n", " \t\n",
		"a\n", " b\r\n", "  c d \r", "\te\n", " \tf", "  \xff\n", "g\n h",
	}, 3)
	checkEvery(t, nil, []string{"\n", "   \n", " \t\n", "a\n", " b\n", "   c\n"}, 5)
	checkEvery(t, nil, []string{"\n", "a\n", " b\n"}, 8)
}

// everyText calls do with each text of up to some count of signs.
func everyText(signs string, count int, do func(s string)) {
	texts := []string{""}
	for range count + 1 {
		var longer []string
		for _, s := range texts {
			do(s)
			for i := range len(signs) {
				longer = append(longer, s+signs[i:i+1])
			}
		}
		texts = longer
	}
}

func TestEveryShortLine(t *testing.T) {
	everyText(" \t\n\ra\x80", 5, func(s string) {
		checkLines(t, []string{s})
		checkLines(t, []string{"  a\n", s, "  b\n"})
		checkLines(t, []string{s, " a \n", s})
	})
}

// No byte but a break's ends a line's own, none but a blank leaves it empty, and none but a space is of an indent.
func TestEveryTwoBytes(t *testing.T) {
	for two := range 1 << 16 {
		s := string([]byte{byte(two >> 8), byte(two)})
		checkLines(t, []string{s})
		checkLines(t, []string{" a\n", " " + s + "\n", " b\n"})
		checkLines(t, []string{" " + s + " c\n", " d\n", "\n"})
	}
}

// die throws pieces, always the same ones.
type die uint32

func (d *die) of(n int) int {
	*d = *d*1664525 + 1013904223
	return int(*d>>8) % n
}

func (d *die) piece(pieces []string) string {
	return pieces[d.of(len(pieces))]
}

func TestWildLines(t *testing.T) {
	blanks := []string{"", "", " ", "  ", "  ", "   ", "\t", " \t", "\t ", "        "}
	signs := []string{"", "", "a", "b c", "#", "- ", ": ", "|", ">", "+", "---", "\x00", "\x0b", "\x0c", "\u0085", "\u00a0", "\u2028", "\u00e9", "\U0001f600", "\xff", "\xe2\x80"}
	ends := []string{"\n", "\n", "\r\n", "\r", "", "\n\n", "\r\r\n", "\nx", "\r y"}
	d := die(8)
	for range 60000 {
		var lines []string
		for range d.of(12) {
			line := d.piece(blanks) + d.piece(signs) + d.piece(signs) + d.piece(blanks) + d.piece(ends)
			lines = append(lines, line)
		}
		checkLines(t, lines)
	}
	for range 10000 {
		var lines []string
		for range d.of(6) {
			b := make([]byte, d.of(30))
			for i := range b {
				b[i] = byte(d.of(256) >> d.of(5))
			}
			lines = append(lines, string(b))
		}
		checkLines(t, lines)
	}
}
