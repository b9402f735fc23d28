package chars

import (
	"fmt"
	"strings"
	"testing"

	"corrector/runes"
)

// ends are what may stand behind an escape, and must not count.
var ends = []string{"", "x", "0", "41", "F", "\\", "\\n", "\"", " ", "\n", "\x00", "\x80", "\xff", "\u00e9"}

// encode writes a sign in UTF-8, without the library that chars leans on.
func encode(r uint64) string {
	rest := func(shift int) byte { return 0x80 | byte(r>>shift)&0x3f }
	switch {
	case r < 0x80:
		return string([]byte{byte(r)})
	case r < 0x800:
		return string([]byte{0xc0 | byte(r>>6), rest(0)})
	case r < 0x10000:
		return string([]byte{0xe0 | byte(r>>12), rest(6), rest(0)})
	}
	return string([]byte{0xf0 | byte(r>>18), rest(12), rest(6), rest(0)})
}

// The chapter's escapes as they stand there: whole, or by what stands ahead of the digits.
var (
	oneSign = map[string]string{
		"\\0": "\x00", "\\t": "\x09", "\\n": "\x0a", "\\r": "\x0d", "\\e": "\x1b",
		"\\\"": "\"", "\\/": "/", "\\\\": "\\", "\\ ": " ",
	}
	counts = map[string]int{"\\x": 2, "\\u": 4, "\\U": 8}
)

// wanted is P501's Escape by its words.
func wanted(s string) (string, int) {
	if len(s) < 2 {
		return "", 0
	}
	if text, ok := oneSign[s[:2]]; ok {
		return text, 2
	}
	count, ok := counts[s[:2]]
	if !ok || len(s) < 2+count {
		return "", 0
	}
	return wantedNumber(s[2:2+count], 2+count)
}

func wantedNumber(digits string, n int) (string, int) {
	r := uint64(0)
	for i := range len(digits) {
		value := strings.IndexByte("0123456789abcdefABCDEF", digits[i])
		if value < 0 {
			return "", 0
		}
		if value > 15 {
			value -= 6
		}
		r = 16*r + uint64(value)
	}
	if r > 0x10ffff || r >= 0xd800 && r <= 0xdfff {
		return "", 0
	}
	return encode(r), n
}

func checkEscape(t *testing.T, s, text string, n int) {
	t.Helper()
	if gotText, gotN := Escape(s); gotText != text || gotN != n {
		t.Fatalf("P501: Escape of %q: %q, %d, not %q, %d", s, gotText, gotN, text, n)
	}
}

func checkWanted(t *testing.T, s string) {
	t.Helper()
	text, n := wanted(s)
	checkEscape(t, s, text, n)
}

func TestClassesOfEveryByte(t *testing.T) {
	for _, class := range []struct {
		name  string
		is    func(byte) bool
		signs string
	}{
		{"Blank", Blank, " \t"},
		{"Name", Name, "abcdefghijklmnopqrstuvwxyzABCDEFGHIJKLMNOPQRSTUVWXYZ0123456789_-"},
		{"Flow", Flow, ",[]{}"},
	} {
		for c := range 256 {
			want := strings.IndexByte(class.signs, byte(c)) >= 0
			if class.is(byte(c)) != want {
				t.Errorf("P501: %s of %q: %v", class.name, byte(c), !want)
			}
		}
	}
}

func TestEscapeWithoutDigits(t *testing.T) {
	for _, x := range []struct{ s, text string }{
		{"\\0", "\x00"},
		{"\\t", "\x09"},
		{"\\n", "\x0a"},
		{"\\r", "\x0d"},
		{"\\e", "\x1b"},
		{"\\\"", "\x22"},
		{"\\/", "\x2f"},
		{"\\\\", "\x5c"},
		{"\\ ", "\x20"},
	} {
		for _, end := range ends {
			checkEscape(t, x.s+end, x.text, 2)
		}
	}
}

func TestEscapeWithDigits(t *testing.T) {
	for _, x := range []struct {
		s, text string
		n       int
	}{
		{"\\x41", "A", 4}, // the chapter's example
		{"\\x00", "\x00", 4},
		{"\\x0a", "\n", 4},
		{"\\x7F", "\x7f", 4},
		{"\\x80", "\xc2\x80", 4}, // the sign of that number, not the byte
		{"\\xff", "\xc3\xbf", 4},
		{"\\xFf", "\xc3\xbf", 4},
		{"\\u0041", "A", 6},
		{"\\u07ff", "\xdf\xbf", 6},
		{"\\u0800", "\xe0\xa0\x80", 6},
		{"\\u20aC", "\xe2\x82\xac", 6},
		{"\\ud7ff", "\xed\x9f\xbf", 6},
		{"\\ue000", "\xee\x80\x80", 6},
		{"\\uFEFF", "\xef\xbb\xbf", 6},
		{"\\ufffd", "\xef\xbf\xbd", 6}, // a sign, though libraries tell a fault by it
		{"\\uffff", "\xef\xbf\xbf", 6},
		{"\\U00000041", "A", 10},
		{"\\U0000d7ff", "\xed\x9f\xbf", 10},
		{"\\U0000E000", "\xee\x80\x80", 10},
		{"\\U0000fffd", "\xef\xbf\xbd", 10},
		{"\\U00010000", "\xf0\x90\x80\x80", 10},
		{"\\U0010FFff", "\xf4\x8f\xbf\xbf", 10},
	} {
		for _, end := range ends {
			checkEscape(t, x.s+end, x.text, x.n)
		}
	}
}

func TestEscapeOfNone(t *testing.T) {
	for _, s := range []string{
		"", "a", "n", "\\", "x\\n", " \\n", "\xff\\n", // no backslash and a letter at the front
		"\\a", "\\b", "\\f", "\\v", "\\N", "\\T", "\\R", "\\E", "\\X41", "\\1", "\\7", "\\'", "\\_", "\\\t", "\\\n", "\\\r", "\\\x00", "\\\xff", "\\\u00e9", // other letters
		"\\x", "\\x4", "\\u", "\\u2", "\\u20a", "\\U", "\\U0010fff", // too few
		"\\xg0", "\\x0g", "\\x4 ", "\\x+1", "\\x-1", "\\x0x", "\\u+041", "\\u 041", "\\u0_41", "\\u0x41", "\\U0x000041", "\\u004\xff", "\\u00\u00e9", "\\x\u0664\u0661", // none of sixteen
		"\\ud800", "\\uDBFF", "\\udc00", "\\uDfFf", "\\U0000d800", "\\U0000dfff", // D800 to DFFF
		"\\ud83d\\ude00",                                                                         // nor two of them together
		"\\U00110000", "\\U7fffffff", "\\U80000000", "\\U80000041", "\\Uffffffff", "\\UfffffFFE", // above 10FFFF
	} {
		checkEscape(t, s, "", 0)
	}
}

func TestEscapeOfEveryNumber(t *testing.T) {
	layouts := []struct {
		layout string
		last   uint64
	}{{"\\x%02x", 0xff}, {"\\x%02X", 0xff}, {"\\u%04x", 0xffff}, {"\\u%04X", 0xffff}, {"\\U%08x", 0x120000}, {"\\U%08X", 0x120000}}
	for _, l := range layouts {
		for r := uint64(0); r <= l.last; r++ {
			checkWanted(t, fmt.Sprintf(l.layout, r))
		}
	}
	// No bit above those of a sign is lost.
	for shift := range 32 {
		for _, low := range []uint64{0, 0x41, 0xd800, 0xfffd} {
			checkWanted(t, fmt.Sprintf("\\U%08x", 1<<shift|low))
		}
	}
}

func TestEscapeOfEveryByteAtEveryPlace(t *testing.T) {
	for _, s := range []string{"\\n", "\\x41", "\\xfFa", "\\u20aC", "\\u004100", "\\U0001f600", "\\U0010FFFFF"} {
		for at := range len(s) {
			for c := range 256 {
				b := []byte(s)
				b[at] = byte(c)
				checkWanted(t, string(b))
			}
		}
	}
}

func TestEscapeOfShortTexts(t *testing.T) {
	signs := "\\0ntexuUdDgG\"/ \t\xff"
	heads := []string{""}
	for range 4 {
		var longer []string
		for _, head := range heads {
			checkWanted(t, head)
			for i := range len(signs) {
				longer = append(longer, head+signs[i:i+1])
			}
		}
		heads = longer
	}
	for _, head := range heads {
		checkWanted(t, head)
	}
}

// P502: what an escape says is one sign, and it hangs on nothing but the escape's own bytes, all of them.
func TestEscapeIsASignOfItsOwn(t *testing.T) {
	found := 0
	for c := range 256 {
		for _, digits := range []string{"", "41", "e9", "20AC", "fffd", "d800", "0001F600", "0010ffff", "00110000"} {
			s := "\\" + string([]byte{byte(c)}) + digits
			text, n := Escape(s)
			if n == 0 {
				continue
			}
			found++
			if r, size := runes.Next([]byte(text)); r < 0 || size != len(text) {
				t.Fatalf("P502: Escape of %q: %q is not one sign", s, text)
			}
			for _, end := range ends {
				if again, m := Escape(s[:n] + end); again != text || m != n {
					t.Fatalf("P502: Escape of %q and %q: %q, %d, not %q, %d", s[:n], end, again, m, text, n)
				}
			}
			for cut := range n {
				if again, m := Escape(s[:cut]); again != "" || m != 0 {
					t.Fatalf("P502: Escape of %q: %q, %d, though %q has more bytes", s[:cut], again, m, s[:n])
				}
			}
		}
	}
	// Nine of no digits, each with nine tails; of x eight tails, of u five, of U two, all others cut off or no sign.
	if want := 9*9 + 8 + 5 + 2; found != want {
		t.Errorf("P502: %d escapes, not %d", found, want)
	}
}

// An escape has ten bytes at most: how long the text behind it is doesn't count.
func TestEscapeAheadOfALongText(t *testing.T) {
	tail := strings.Repeat("0", 1<<20)
	checkEscape(t, "\\n"+tail, "\n", 2)
	checkEscape(t, "\\x"+tail, "\x00", 4)
	checkEscape(t, "\\u"+tail, "\x00", 6)
	checkEscape(t, "\\U"+tail, "\x00", 10)
	checkEscape(t, "\\q"+tail, "", 0)
	checkEscape(t, tail+"\\n", "", 0)
}

// P3: nothing is kept from call to call.
func TestEscapeAnswersTheSameAgain(t *testing.T) {
	row := []string{"\\U0001f600", "\\q", "\\x41", "", "\\ud800", "\\u20ac", "\\x4", "\\ "}
	for range 3 {
		for _, s := range row {
			checkWanted(t, s)
		}
	}
}
