package quote

import (
	"math"
	"strings"
	"testing"

	"corrector/api"
	"corrector/scan"
)

func checkText(t *testing.T, kind int, s, text string, bad []int, ended bool) {
	t.Helper()
	got, want := asked(kind, s), answer{text, bad, ended}
	if !got.is(want) {
		t.Errorf("P701: Text of %d, %q: %s, not %s", kind, s, got, want)
	}
}

func TestTextOfPlain(t *testing.T) {
	for _, s := range []string{"a", "a b", "'a'", "\"a\"", "a''b", "\\n", "\\q", "\\", "'", "\"", " ", "\n", "\x00", "\xff", "\xc3\xa9"} {
		checkText(t, api.TPlain, s, s, nil, true)
	}
}

func TestTextOfSingle(t *testing.T) {
	for _, x := range []struct {
		s, text string
		ended   bool
	}{
		{"'a''b'", "a'b", true}, // the chapter's example
		{"'a'", "a", true},
		{"''", "", true},
		{"''''", "'", true},
		{"''''''", "''", true},
		{"'''a'''", "'a'", true},
		{"'a\"b'", "a\"b", true},
		{"'a\\n\\q\\'", "a\\n\\q\\", true}, // a backslash is a sign as others are
		{"'\xff\xc3\xa9\xc3'", "\xff\xc3\xa9\xc3", true},
		{"'a\r\nb'", "a\r\nb", true},
		// without an end
		{"'", "", false},
		{"'a", "a", false},
		{"'''", "'", false},
		{"'a''", "a'", false},
		{"'a\"", "a\"", false},
		// what stands behind the end
		{"'a'b'", "a", true},
		{"'a' ''", "a", true},
		{"''a", "", true},
		{"'a'\xff", "a", true},
		{"'''''a", "''a", false},
		{"''''a'", "'", true},
		// The first byte is gone past, whatever it is.
		{"a''b'", "'b", true},
		{"\"a'", "a", true},
		{"a", "", false},
		{"\xc3\xa9'", "\xa9", true},
	} {
		checkText(t, api.TSingle, x.s, x.text, nil, x.ended)
	}
}

func TestTextOfDouble(t *testing.T) {
	for _, x := range []struct {
		s, text string
		bad     []int
		ended   bool
	}{
		{`"a"`, "a", nil, true},
		{`""`, "", nil, true},
		{`"a''b'"`, "a''b'", nil, true},
		{`"\0\t\n\r\e\"\/\\\ "`, "\x00\t\n\r\x1b\"/\\ ", nil, true},
		{`"\x41\u20aC\U0001F600"`, "A\u20ac\U0001f600", nil, true},
		{`"\\n"`, `\n`, nil, true},
		{`"\\"`, `\`, nil, true},
		{`"\x5c\x22"`, `\"`, nil, true}, // what an escape says neither begins one nor ends the text
		{`"\x5cn"`, `\n`, nil, true},
		{`"\ufffd"`, "\ufffd", nil, true},
		{"\"\xff\xc3\xa9\xc3\"", "\xff\xc3\xa9\xc3", nil, true},
		{"\"\xc3\\n\xa9\"", "\xc3\n\xa9", nil, true},
		{"\"a\r\nb\"", "a\r\nb", nil, true},
		// escapes that are none: the backslash alone stands for itself
		{`"\q"`, `\q`, []int{1}, true},
		{`"a\q\\\q"`, `a\q\\q`, []int{2, 6}, true},
		{`"\a\b"`, `\a\b`, []int{1, 3}, true},
		{`"\x4"`, `\x4`, []int{1}, true},
		{`"\x4\n"`, "\\x4\n", []int{1}, true},
		{`"\x"`, `\x`, []int{1}, true},
		{`"\u20a\"`, `\u20a"`, []int{1}, false},
		{`"\ud800\U00110000"`, `\ud800\U00110000`, []int{1, 7}, true},
		{`"\'"`, `\'`, []int{1}, true},
		{"\"\\\n\"", "\\\n", []int{1}, true},
		{"\"\\\xff\\\u00e9\"", "\\\xff\\\u00e9", []int{1, 3}, true},
		// without an end
		{`"`, "", nil, false},
		{`"a`, "a", nil, false},
		{`"a'`, "a'", nil, false},
		{`"a\"`, `a"`, nil, false},
		{`"a\`, `a\`, []int{2}, false},
		{`"\`, `\`, []int{1}, false},
		{`"\\\`, `\\`, []int{3}, false},
		{`"\u20`, `\u20`, []int{1}, false},
		// what stands behind the end: its backslashes are none to tell of
		{`"a"b"`, "a", nil, true},
		{`"a"\q`, "a", nil, true},
		{`"\q"\q"`, `\q`, []int{1}, true},
		{`"""`, "", nil, true},
		{`"\x4"1"`, `\x4`, []int{1}, true},
		// The first byte is gone past, whatever it is.
		{`'a"`, "a", nil, true},
		{`\"a`, "", nil, true},
		{`\\n"`, "\n", nil, true},
		{`\`, "", nil, false},
		{"\xc3\xa9\"", "\xa9", nil, true},
	} {
		checkText(t, api.TDouble, x.s, x.text, x.bad, x.ended)
	}
}

func TestTextOfNothing(t *testing.T) {
	for kind := -3; kind <= 30; kind++ {
		checkText(t, kind, "", "", nil, false)
	}
}

func TestTextOfOtherKinds(t *testing.T) {
	kinds := []int{math.MinInt, math.MinInt + api.TDouble, -api.TPlain, -api.TSingle, -api.TDouble, 1<<32 + api.TPlain, 256 + api.TSingle, math.MaxInt}
	for kind := -3; kind <= 30; kind++ {
		if kind != api.TPlain && kind != api.TSingle && kind != api.TDouble {
			kinds = append(kinds, kind)
		}
	}
	for _, kind := range kinds {
		for _, s := range []string{"a", "'a'", "\"a\"", "\"\\q\"", "|", ">-", "\xff", "!!int", "&a", "\\"} {
			checkText(t, kind, s, "", nil, false)
		}
	}
}

func TestWriteOfEveryByte(t *testing.T) {
	hex := "0123456789abcdef"
	for c := range 256 {
		want := string([]byte{byte(c)})
		switch {
		case c == '\\' || c == '"':
			want = "\\" + want
		case c == 0 || c == 9 || c == 10 || c == 13:
			want = "\\" + map[int]string{0: "0", 9: "t", 10: "n", 13: "r"}[c]
		case c < 32:
			want = "\\x" + hex[c/16:c/16+1] + hex[c%16:c%16+1]
		}
		for _, sides := range [][2]string{{"", ""}, {"a", "b"}, {"\xc3", "\xa9"}, {"4", "1"}, {"'", "'"}} {
			s := sides[0] + string([]byte{byte(c)}) + sides[1]
			if got := Write(s); got != `"`+sides[0]+want+sides[1]+`"` {
				t.Errorf("P701: Write of %q: %s", s, got)
			}
		}
	}
}

func TestWriteOfTexts(t *testing.T) {
	for _, x := range []struct{ s, want string }{
		{"", `""`},
		{"a b", `"a b"`},
		{`"`, `"\""`},
		{`\`, `"\\"`},
		{`\n`, `"\\n"`},
		{`\"`, `"\\\""`},
		{"\x00\x01\x07\x08\t\n\x0b\x0c\r\x0e\x1b\x1f ", `"\0\x01\x07\x08\t\n\x0b\x0c\r\x0e\x1b\x1f "`},
		{"\x0041", `"\041"`},
		{"\r\n", `"\r\n"`},
		{"'/\x7f", "\"'/\x7f\""},
		{"\u00e9\u20ac\U0001f600\ufffd", "\"\u00e9\u20ac\U0001f600\ufffd\""},
		{"\x80\xff\xc3", "\"\x80\xff\xc3\""},
	} {
		if got := Write(x.s); got != x.want {
			t.Errorf("P701: Write of %q: %s, not %s", x.s, got, x.want)
		}
		checkWritten(t, x.s)
	}
}

// P702: what was written is read as it was, whatever stands behind it.
func TestWrittenAheadOfOtherTexts(t *testing.T) {
	for _, s := range []string{"", "a", "\\", "\"", "\x00", "\\x4", "\xc3", "\\\"\\", "\n"} {
		for _, end := range []string{"\"", "\\", "\\q", "a", "\xa9", "1", " # b", "\n"} {
			if got := asked(api.TDouble, Write(s)+end); !got.is(answer{s, nil, true}) {
				t.Errorf("P702: %q, written ahead of %q, is read as %s", s, end, got)
			}
		}
	}
}

// P702: it is one token of a text as well.
func TestWrittenIsOneToken(t *testing.T) {
	d := die(702)
	for range 5000 {
		b := make([]byte, d.of(30))
		for i := range b {
			b[i] = byte(d.of(256) >> d.of(4))
		}
		w := Write(string(b))
		l := scan.Tokens([]byte(w))
		if len(l) != 1 || l[0] != (api.Token{Kind: api.TDouble, From: 0, To: len(w)}) {
			t.Fatalf("P702: %q was written as %s: %v", b, w, l)
		}
	}
}

// The tokens of a text are what Text asks for: the quote that ends one, if there is any, is its last byte.
func TestTextOfTokens(t *testing.T) {
	pieces := []string{"'", "'", "\"", "\"", "\\", "\\q", "\\x4", "\\n", " ", "\n", "a", "- ", ": ", "[", "]", "\xff", "\u00e9"}
	d := die(701)
	var ends [2]int
	for range 20000 {
		s := ""
		for range d.of(20) {
			s += pieces[d.of(len(pieces))]
		}
		for _, k := range scan.Tokens([]byte(s)) {
			token := s[k.From:k.To]
			got := asked(k.Kind, token)
			if !got.is(wanted(k.Kind, token)) {
				t.Fatalf("P701: Text of %d, %q: %s", k.Kind, token, got)
			}
			if k.Kind != api.TSingle && k.Kind != api.TDouble {
				continue
			}
			if !got.ended {
				ends[0]++
				continue
			}
			ends[1]++
			if asked(k.Kind, token[:len(token)-1]).ended {
				t.Fatalf("P701: Text of %d, %q ends ahead of the token's last byte", k.Kind, token)
			}
		}
	}
	if ends[0] < 5000 || ends[1] < 5000 {
		t.Errorf("only %d tokens without an end, %d with one", ends[0], ends[1])
	}
}

// P1: all ends in time, however long a text is.
func TestLongTexts(t *testing.T) {
	const n = 1 << 20
	a := strings.Repeat("a", n)
	checkLong(t, api.TPlain, a, a, 0, true)
	checkLong(t, api.TSingle, "'"+a+"'", a, 0, true)
	checkLong(t, api.TSingle, "'"+strings.Repeat("''", n), strings.Repeat("'", n), 0, false)
	checkLong(t, api.TSingle, "'"+strings.Repeat("a''", n)+"'", strings.Repeat("a'", n), 0, true)
	checkLong(t, api.TDouble, "\""+a+"\"", a, 0, true)
	checkLong(t, api.TDouble, "\""+strings.Repeat("\\x41", n)+"\"", strings.Repeat("A", n), 0, true)
	checkLong(t, api.TDouble, "\""+strings.Repeat("\\q", n)+"\"", strings.Repeat("\\q", n), n, true)
	checkLong(t, api.TDouble, "\""+strings.Repeat("\\\\", n), strings.Repeat("\\", n), 0, false)
	checkLong(t, api.TDouble, "\"\""+strings.Repeat("\\q", n), "", 0, true)
	every := ""
	for c := range 256 {
		every += string([]byte{byte(c)})
	}
	s := strings.Repeat(every, n/256)
	checkLong(t, api.TDouble, Write(s), s, 0, true)
}

func checkLong(t *testing.T, kind int, s, text string, bad int, ended bool) {
	t.Helper()
	got := asked(kind, s)
	if got.text != text || len(got.bad) != bad || got.ended != ended {
		t.Errorf("P701: Text of %d, %q ..: %d bytes, %d bad, %v", kind, s[:8], len(got.text), len(got.bad), got.ended)
	}
}

// P2 and P3: a list of bad places is nobody else's, its spare room too; nothing is kept from call to call.
func TestNothingIsShared(t *testing.T) {
	row := []string{`"\q\q\q"`, `"a"`, `"\x4 \q`, `""`, "'a''b'", `"\q\q\q\q\q"`}
	var first []answer
	for _, s := range row {
		first = append(first, asked(api.TDouble, s))
	}
	for i, s := range row {
		spoil := first[i].bad[:cap(first[i].bad)]
		for k := range spoil {
			spoil[k] = -7
		}
		for _, other := range row {
			if got := asked(api.TDouble, other); !got.is(wanted(api.TDouble, other)) {
				t.Errorf("P2, P3: %q behind %q: %s", other, s, got)
			}
		}
		for k := i + 1; k < len(row); k++ {
			if !first[k].is(wanted(api.TDouble, row[k])) {
				t.Errorf("P2: the answer of %q was changed with that of %q: %s", row[k], s, first[k])
			}
		}
	}
	for range 3 {
		for _, s := range row {
			checkWords(t, s)
		}
	}
}
