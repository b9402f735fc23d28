package runes

import (
	"bytes"
	"slices"
	"testing"

	"corrector/api"
)

// encode writes a sign as the chapter's UTF-8 has it, without the library that runes leans on.
func encode(r rune) []byte {
	rest := func(shift int) byte { return 0x80 | byte(r>>shift)&0x3f }
	switch {
	case r < 0x80:
		return []byte{byte(r)}
	case r < 0x800:
		return []byte{0xc0 | byte(r>>6), rest(0)}
	case r < 0x10000:
		return []byte{0xe0 | byte(r>>12), rest(6), rest(0)}
	}
	return []byte{0xf0 | byte(r>>18), rest(12), rest(6), rest(0)}
}

func isSign(r rune) bool {
	return r >= 0 && r <= 0x10ffff && (r < 0xd800 || r > 0xdfff)
}

// wanted is P101's Next by its words: a sign is read loosely, and counts if writing it gives the same bytes.
func wanted(b []byte) (rune, int) {
	if len(b) == 0 {
		return -1, 0
	}
	for n := 1; n <= 4 && n <= len(b); n++ {
		r := rune(b[0])
		if n > 1 {
			r = rune(b[0]) & (0x7f >> n)
		}
		for _, c := range b[1:n] {
			r = r<<6 | rune(c&0x3f)
		}
		if isSign(r) && bytes.Equal(encode(r), b[:n]) {
			return r, n
		}
	}
	return -1, 1
}

func checkNext(t *testing.T, b []byte, r rune, n int) {
	t.Helper()
	if gotR, gotN := Next(b); gotR != r || gotN != n {
		t.Fatalf("P101: Next of % x: %x, %d, not %x, %d", b, gotR, gotN, r, n)
	}
}

func TestNextOfSigns(t *testing.T) {
	for _, x := range []struct {
		b string
		r rune
		n int
	}{
		{"\xc3\xa9", 0xe9, 2}, // the chapter's example
		{"a", 'a', 1},
		{"\x00", 0, 1},
		{"\x7f", 0x7f, 1},
		{"\r\n", '\r', 1},
		{"\xc2\x80", 0x80, 2},
		{"\xdf\xbf", 0x7ff, 2},
		{"\xe0\xa0\x80", 0x800, 3},
		{"\xed\x9f\xbf", 0xd7ff, 3},
		{"\xee\x80\x80", 0xe000, 3},
		{"\xef\xbb\xbf", 0xfeff, 3},
		{"\xef\xbf\xbd", 0xfffd, 3}, // a sign, though libraries tell a fault by it
		{"\xef\xbf\xbf", 0xffff, 3},
		{"\xf0\x90\x80\x80", 0x10000, 4},
		{"\xf4\x8f\xbf\xbf", 0x10ffff, 4},
	} {
		for _, rest := range []string{"", "x", "\x80", "\xff", "\xc3\xa9", "\xef\xbf\xbd"} {
			checkNext(t, []byte(x.b+rest), x.r, x.n)
		}
	}
}

func TestNextOfNone(t *testing.T) {
	checkNext(t, nil, -1, 0)
	checkNext(t, []byte{}, -1, 0)
	for _, b := range []string{
		"\x80", "\xbf", "\xfe", "\xff", // no sign begins so
		"\xc0\x80", "\xc1\xbf", "\xe0\x80\x80", "\xe0\x9f\xbf", "\xf0\x80\x80\x80", "\xf0\x8f\xbf\xbf", // not as short as may be
		"\xed\xa0\x80", "\xed\xbf\xbf", // D800, DFFF
		"\xf4\x90\x80\x80", "\xf5\x80\x80\x80", "\xf7\xbf\xbf\xbf", "\xf8\x88\x80\x80\x80", // above 10FFFF
		"\xc3", "\xe2\x82", "\xe2", "\xf0\x9f\x98", "\xf0\x9f", "\xf0", "\xef\xbf", // cut off
		"\xc3a", "\xe2\x82a", "\xe2a\x82", "\xf0\x9f\x98a", "\xc3\xc3", "\xc3\xff", // broken off
	} {
		checkNext(t, []byte(b), -1, 1)
		checkNext(t, []byte(b+"x"), -1, 1)
	}
}

func TestNextOfEveryNumber(t *testing.T) {
	for r := rune(0); r < 0x200000; r++ {
		b := encode(r)
		n := len(b)
		if !isSign(r) {
			checkNext(t, b, -1, 1)
			continue
		}
		checkNext(t, b, r, n)
		checkNext(t, append(b, 0x80), r, n)
		if n > 1 {
			checkNext(t, b[:n-1], -1, 1)
		}
	}
}

func TestNextOfWildBytes(t *testing.T) {
	edges := []byte{0, 'a', 0x7f, 0x80, 0x8f, 0x90, 0x9f, 0xa0, 0xbd, 0xbf, 0xc0, 0xef, 0xff}
	for head := range 1 << 16 {
		b := []byte{byte(head >> 8), byte(head), 0, 0}
		for _, b[2] = range edges {
			for _, b[3] = range edges {
				r, n := wanted(b)
				checkNext(t, b, r, n)
			}
		}
	}
}

func TestBad(t *testing.T) {
	for _, x := range []struct {
		b      string
		places []int
	}{
		{"", nil},
		{"a\r\nb\xc3\xa9\x00", nil},
		{"\xff", []int{0}},
		{"a\xffb\xc3\xa9\xc3", []int{1, 5}},
		{"\xef\xbf\xbd", nil},
		{"\xef\xbf\xbd\xff\xef\xbf\xbd\x80", []int{3, 7}},
		{"\xe2\x82", []int{0, 1}}, // each byte of what is cut off
		{"\xe2\x82a", []int{0, 1}},
		{"\xed\xa0\x80", []int{0, 1, 2}},
		{"\xf4\x90\x80\x80", []int{0, 1, 2, 3}},
		{"\xf0\xf0\x9f\x98\x80\x80", []int{0, 5}},
		{"\xe2\xe2\x82\xac", []int{0}},
	} {
		if l := Bad([]byte(x.b)); !slices.Equal(l, x.places) {
			t.Errorf("P101: Bad of % x: %v, not %v", x.b, l, x.places)
		}
	}
}

func TestCount(t *testing.T) {
	for _, x := range []struct {
		b string
		n int
	}{
		{"", 0},
		{"abc", 3},
		{"\r\n", 2},
		{"\xc3\xa9", 1},
		{"a\xe2\x82\xac\xf0\x9f\x98\x80", 3},
		{"\xef\xbf\xbd", 1},
		{"\xff\xff", 2},
		{"\xe2\x82", 2},
		{"\xf0\x9f\x98a", 4},
		{"\xed\xa0\x80", 3},
	} {
		if n := Count([]byte(x.b)); n != x.n {
			t.Errorf("P101: Count of % x: %d, not %d", x.b, n, x.n)
		}
	}
	if Count(nil) != 0 || len(Bad(nil)) != 0 {
		t.Error("P101: no bytes have neither steps nor bad places")
	}
}

// wild is a text of bytes that differ from seed to seed, and look like UTF-8 often enough.
func wild(seed uint32, size int) []byte {
	pieces := []string{"a", "\n", "\xc3\xa9", "\xe2\x82\xac", "\xf0\x9f\x98\x80", "\xef\xbf\xbd", "\xc3", "\xe2\x82", "\xf0\x9f", "\x80", "\xff", "\xed\xa0\x80"}
	var b []byte
	for len(b) < size {
		seed = seed*1664525 + 1013904223
		b = append(b, pieces[int(seed>>16)%len(pieces)]...)
	}
	return b[:size]
}

func checkSteps(t *testing.T, b []byte) {
	t.Helper()
	at, steps := 0, 0
	var bad []int
	for at < len(b) {
		wantR, wantN := wanted(b[at:])
		checkNext(t, b[at:], wantR, wantN)
		if wantR < 0 {
			bad = append(bad, at)
		}
		at += wantN
		steps++
	}
	if at != len(b) {
		t.Fatalf("P102: the steps end at %d of %d bytes: % x", at, len(b), b)
	}
	if n := Count(b); n != steps {
		t.Fatalf("P102: Count of % x: %d, not %d", b, n, steps)
	}
	if l := Bad(b); !slices.Equal(l, bad) {
		t.Fatalf("P102: Bad of % x: %v, not %v", b, l, bad)
	}
}

func TestStepsTakeEveryByteOnce(t *testing.T) {
	for seed := range uint32(2000) {
		checkSteps(t, wild(seed, int(seed)%64))
	}
	checkSteps(t, wild(7, api.MaxText))
	checkSteps(t, wild(8, 4*api.MaxText)) // the chapter sets no length of its own
	checkSteps(t, bytes.Repeat([]byte{0xff}, api.MaxText+1))
}

// P2 and P3: what is handed in stays, its spare room too; an answer is nobody else's.
func TestNothingIsSharedOrChanged(t *testing.T) {
	room := []byte("a\xe2\x82\xac\xff\xe2\x82\xac")
	kept := bytes.Clone(room)
	b := room[:len(room)-1] // the last sign goes on in the spare room only
	checkNext(t, b[5:], -1, 1)
	first := Bad(b)
	if !slices.Equal(first, []int{4, 5, 6}) || Count(b) != 5 {
		t.Fatalf("P101: %v, %d: bytes behind the end were read", first, Count(b))
	}
	spoil := first[:cap(first)]
	for i := range spoil {
		spoil[i] = -7
	}
	if again := Bad(b); !slices.Equal(again, []int{4, 5, 6}) {
		t.Errorf("P2, P3: %v", again)
	}
	if !bytes.Equal(room, kept) {
		t.Errorf("P2: % x became % x", kept, room)
	}
}
