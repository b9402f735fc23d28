package quote

import (
	"fmt"
	"regexp"
	"slices"
	"strconv"
	"strings"
	"testing"

	"corrector/api"
)

// The chapter's quoted texts as they stand there, behind their first byte, and the escapes of chapter 5, by expressions.
var (
	singleBody  = regexp.MustCompile(`\A((?:''|[^'])*)('?)`)
	escapeShort = regexp.MustCompile(`\A\\[0tnre"/\\ ]`)
	escapeLong  = regexp.MustCompile(`\A\\(?:x([0-9a-fA-F]{2})|u([0-9a-fA-F]{4})|U([0-9a-fA-F]{8}))`)
)

// answer is what Text answers.
type answer struct {
	text  string
	bad   []int
	ended bool
}

func (a answer) is(b answer) bool {
	return a.text == b.text && slices.Equal(a.bad, b.bad) && a.ended == b.ended
}

func (a answer) String() string {
	return fmt.Sprintf("%q, %v, %v", a.text, a.bad, a.ended)
}

func asked(kind int, s string) answer {
	text, bad, ended := Text(kind, s)
	return answer{text, bad, ended}
}

// wanted is P701's Text by its words.
func wanted(kind int, s string) answer {
	switch {
	case s == "":
		return answer{}
	case kind == api.TPlain:
		return answer{s, nil, true}
	case kind == api.TSingle:
		m := singleBody.FindStringSubmatch(s[1:])
		return answer{strings.ReplaceAll(m[1], "''", "'"), nil, m[2] == "'"}
	case kind == api.TDouble:
		return wantedDouble(s)
	}
	return answer{}
}

func wantedDouble(s string) answer {
	var a answer
	for at := 1; at < len(s); {
		text, n := wantedEscape(s[at:])
		switch {
		case s[at] == '"':
			a.ended = true
			return a
		case n > 0:
			a.text += text
			at += n
			continue
		case s[at] == '\\':
			a.bad = append(a.bad, at)
		}
		a.text += s[at : at+1]
		at++
	}
	return a
}

// wantedEscape is chapter 5's Escape, without the package that quote leans on.
func wantedEscape(s string) (string, int) {
	if m := escapeShort.FindString(s); m != "" {
		says := map[string]string{`\0`: "\x00", `\t`: "\x09", `\n`: "\x0a", `\r`: "\x0d", `\e`: "\x1b"}
		if text, ok := says[m]; ok {
			return text, len(m)
		}
		return m[1:], len(m)
	}
	m := escapeLong.FindStringSubmatch(s)
	if m == nil {
		return "", 0
	}
	r, _ := strconv.ParseUint(m[1]+m[2]+m[3], 16, 64)
	if r > 0x10ffff || r >= 0xd800 && r <= 0xdfff {
		return "", 0
	}
	return string(rune(r)), len(m[0])
}

// wantedWritten is P701's Write by its words.
func wantedWritten(s string) string {
	own := map[byte]string{'\\': `\\`, '"': `\"`, 0: `\0`, 9: `\t`, 10: `\n`, 13: `\r`}
	w := `"`
	for at := range len(s) {
		c := s[at]
		text, ok := own[c]
		switch {
		case ok:
			w += text
		case c < 16:
			w += `\x0` + strconv.FormatInt(int64(c), 16)
		case c < 32:
			w += `\x` + strconv.FormatInt(int64(c), 16)
		default:
			w += s[at : at+1]
		}
	}
	return w + `"`
}

// readKinds are the kinds of which P701 tells what they say.
var readKinds = []int{api.TPlain, api.TSingle, api.TDouble}

func checkWords(t *testing.T, s string) {
	t.Helper()
	for _, kind := range readKinds {
		got, want := asked(kind, s), wanted(kind, s)
		if !got.is(want) {
			t.Fatalf("P701: Text of %d, %q: %s, not %s", kind, s, got, want)
		}
	}
	checkWritten(t, s)
}

// checkWritten holds Write against the words, and what it writes against what was written (P702).
func checkWritten(t *testing.T, s string) {
	t.Helper()
	w := Write(s)
	if want := wantedWritten(s); w != want {
		t.Fatalf("P701: Write of %q: %s, not %s", s, w, want)
	}
	if got := asked(api.TDouble, w); !got.is(answer{s, nil, true}) {
		t.Fatalf("P702: %q was written as %s, and read as %s", s, w, got)
	}
}

// checkEvery holds a text, and all that it makes with up to some count of pieces behind it, against the words.
func checkEvery(t *testing.T, s string, pieces []string, count int) {
	t.Helper()
	checkWords(t, s)
	if count == 0 {
		return
	}
	for _, p := range pieces {
		checkEvery(t, s+p, pieces, count-1)
	}
}

func TestEveryShortText(t *testing.T) {
	checkEvery(t, "", []string{"'", "\"", "\\", "a", "n", "x", "4", " ", "\n", "\xff", "\u00e9"}, 5)
	checkEvery(t, "", []string{"'", "a", "\""}, 9)
	checkEvery(t, "", []string{"\"", "\\", "a", "'"}, 7)
	checkEvery(t, "\"", []string{"\\", "x", "u", "U", "0", "d", "8", "\"", "g"}, 5)
}

func TestEveryTwoBytes(t *testing.T) {
	for _, ahead := range []string{"", "'", "\"", "\"\\", "\"\\x4"} {
		for two := range 1 << 16 {
			checkWords(t, ahead+string([]byte{byte(two >> 8), byte(two)}))
		}
	}
}

// die throws pieces, always the same ones.
type die uint32

func (d *die) of(n int) int {
	*d = *d*1664525 + 1013904223
	return int(*d>>8) % n
}

func TestWildTexts(t *testing.T) {
	pieces := []string{
		"'", "''", "\"", "\"", "\\", "\\", "\\\\", "\\\"", "\\n", "\\e", "\\ ", "\\/", "\\'", "\\q",
		"\\x41", "\\xfF", "\\x4", "\\u20ac", "\\ufffd", "\\ud800", "\\u20a", "\\U0001F600", "\\U00110000", "\\Uffffffff",
		"a", "b c", "#", ": ", "\n", "\r\n", "\t", "\x00", "\x1f", "\x7f", "\u00e9", "\u20ac", "\ufffd", "\U0001f600", "\xff", "\xc3", "\xe2\x82", "\xf0\x9f\x98",
	}
	d := die(7)
	for range 40000 {
		s := ""
		for range d.of(12) {
			s += pieces[d.of(len(pieces))]
		}
		checkWords(t, s)
		checkWords(t, "\""+s)
	}
	for range 10000 {
		b := make([]byte, d.of(100))
		for i := range b {
			b[i] = byte(d.of(256))
		}
		checkWords(t, string(b))
	}
}
