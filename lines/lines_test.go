package lines

import (
	"bytes"
	"math"
	"slices"
	"testing"

	"corrector/api"
	"corrector/runes"
)

// wantedStarts is P201's Starts by its words: what stands behind each break, the longest one first.
func wantedStarts(b []byte) []int {
	starts := []int{0}
	for at := 0; at < len(b); {
		n := breakAt(b[at:])
		if n > 0 {
			starts = append(starts, at+n)
		}
		at += max(n, 1)
	}
	return starts
}

func breakAt(b []byte) int {
	for _, x := range []string{"\r\n", "\n", "\r"} {
		if bytes.HasPrefix(b, []byte(x)) {
			return len(x)
		}
	}
	return 0
}

func wantedPlace(b []byte, at int) (line, col int) {
	if at < 0 || at > len(b) {
		return 0, 0
	}
	last := 0
	for _, start := range wantedStarts(b) {
		if start <= at {
			last = start
			line++
		}
	}
	return line, 1 + runes.Count(b[last:at])
}

// stepEnds are the places at which a step of runes.Next begins or ends, from a line's start on.
func stepEnds(b []byte, start, end int) []int {
	places := []int{start}
	for at := start; at < end; {
		_, n := runes.Next(b[at:])
		at += n
		places = append(places, at)
	}
	return places
}

func wantedOffset(b []byte, line, col int) (int, api.Errno) {
	starts := wantedStarts(b)
	if line < 1 || line > len(starts) {
		return 0, api.ErrNone
	}
	end, last := len(b), line == len(starts)
	if !last {
		end = starts[line]
	}
	for i, at := range stepEnds(b, starts[line-1], end) {
		if i+1 == col && (last || at < end) {
			return at, api.OK
		}
	}
	return 0, api.ErrNone
}

func checkStarts(t *testing.T, b []byte, want []int) {
	t.Helper()
	if l := Starts(b); !slices.Equal(l, want) {
		t.Fatalf("P201: Starts of %q: %v, not %v", b, l, want)
	}
}

func checkPlace(t *testing.T, b []byte, at, line, col int) {
	t.Helper()
	if l, c := Place(b, at); l != line || c != col {
		t.Fatalf("P201: Place of %d in %q: %d, %d, not %d, %d", at, b, l, c, line, col)
	}
}

func checkOffset(t *testing.T, b []byte, line, col, at int, want api.Errno) {
	t.Helper()
	if a, e := Offset(b, line, col); a != at || e != want {
		t.Fatalf("P201: Offset of %d, %d in %q: %d, %v, not %d, %v", line, col, b, a, e, at, want)
	}
}

func TestStarts(t *testing.T) {
	for _, x := range []struct {
		b      string
		starts []int
	}{
		{"a\n", []int{0, 2}}, // the chapter's example
		{"", []int{0}},
		{"a", []int{0}},
		{"\n", []int{0, 1}},
		{"\r", []int{0, 1}},
		{"\r\n", []int{0, 2}},
		{"\n\r", []int{0, 1, 2}},
		{"\r\r", []int{0, 1, 2}},
		{"\r\r\n", []int{0, 1, 3}},
		{"\r\n\n", []int{0, 2, 3}},
		{"\r\n\r\n", []int{0, 2, 4}},
		{"a\r\nb\nc\rd", []int{0, 3, 5, 7}},
		{"\r\xff\n", []int{0, 1, 3}},
		{"\xc3\n\xe2\x82\r", []int{0, 2, 5}}, // a break ends a sign that is cut off
		{"\xc3\xa9\n\xef\xbf\xbd\r", []int{0, 3, 7}},
		{"\v\f\x00\xc2\x85\xe2\x80\xa8\xe2\x80\xa9", []int{0}}, // no breaks, whatever others take them for
		{"\xc0\x8a\xe0\x80\x8a\xc4\x8a", []int{0}},             // a line feed's bits, but none
	} {
		checkStarts(t, []byte(x.b), x.starts)
	}
	checkStarts(t, nil, []int{0})
}

func TestPlace(t *testing.T) {
	for _, x := range []struct {
		b      string
		places [][2]int // of each place, the end too
	}{
		{"", [][2]int{{1, 1}}},
		{"a", [][2]int{{1, 1}, {1, 2}}},
		{"a\n", [][2]int{{1, 1}, {1, 2}, {2, 1}}},
		{"\r\nb", [][2]int{{1, 1}, {1, 2}, {2, 1}, {2, 2}}}, // amid a break is ahead of the next line
		{"\r\r\n\n", [][2]int{{1, 1}, {2, 1}, {2, 2}, {3, 1}, {4, 1}}},
		{"\xc3\xa9b", [][2]int{{1, 1}, {1, 2}, {1, 2}, {1, 3}}},                         // a sign cut in two counts by its bytes
		{"\xf0\x9f\x98\x80c", [][2]int{{1, 1}, {1, 2}, {1, 3}, {1, 4}, {1, 2}, {1, 3}}}, // and columns may fall
		{"\n\xe2\x82\n\xff", [][2]int{{1, 1}, {2, 1}, {2, 2}, {2, 3}, {3, 1}, {3, 2}}},
	} {
		for at, p := range x.places {
			checkPlace(t, []byte(x.b), at, p[0], p[1])
		}
	}
}

func TestPlaceOutside(t *testing.T) {
	for _, b := range []string{"", "a", "a\r\nb\n"} {
		for _, at := range []int{math.MinInt, -2, -1, len(b) + 1, len(b) + 2, math.MaxInt} {
			checkPlace(t, []byte(b), at, 0, 0)
		}
	}
	checkPlace(t, nil, 0, 1, 1)
	checkPlace(t, nil, 1, 0, 0)
}

func TestOffset(t *testing.T) {
	b := []byte("a\xc3\xa9\xff\r\n\n\xe2\x82\rz")
	for _, x := range []struct{ line, col, at int }{
		{1, 1, 0}, {1, 2, 1}, {1, 3, 3}, {1, 4, 4}, {1, 5, 5}, // its break too
		{2, 1, 6},
		{3, 1, 7}, {3, 2, 8}, {3, 3, 9},
		{4, 1, 10}, {4, 2, 11}, // of the last line its end too
	} {
		checkOffset(t, b, x.line, x.col, x.at, api.OK)
	}
	for _, x := range [][2]int{{1, 6}, {2, 2}, {3, 4}, {4, 3}, {5, 1}, {0, 1}, {-1, 1}, {1, 0}, {1, -1}, {4, 0}, {0, 0},
		{math.MaxInt, 1}, {math.MinInt, 1}, {1, math.MaxInt}, {4, math.MaxInt}, {1, math.MinInt}, {4, math.MinInt}} {
		checkOffset(t, b, x[0], x[1], 0, api.ErrNone)
	}
}

func TestOffsetOfEmptyLines(t *testing.T) {
	for _, b := range []string{"", "\n", "\r\n", "a\r"} {
		lines := len(Starts([]byte(b)))
		checkOffset(t, []byte(b), lines, 1, len(b), api.OK)
		checkOffset(t, []byte(b), lines, 2, 0, api.ErrNone)
		checkOffset(t, []byte(b), lines+1, 1, 0, api.ErrNone)
	}
	checkOffset(t, nil, 1, 1, 0, api.OK)
	checkOffset(t, nil, 1, 2, 0, api.ErrNone)
}

// wild is a text of bytes that differ from seed to seed, with breaks and pieces of signs.
func wild(seed uint32, size int) []byte {
	pieces := []string{"a", " ", "\n", "\r", "\r\n", "\n\r", "\xc3\xa9", "\xe2\x82\xac", "\xf0\x9f\x98\x80", "\xef\xbf\xbd", "\xc3", "\xe2\x82", "\xf0\x9f", "\x80", "\xff"}
	var b []byte
	for len(b) < size {
		seed = seed*1664525 + 1013904223
		b = append(b, pieces[int(seed>>16)%len(pieces)]...)
	}
	return b[:size]
}

func checkWhole(t *testing.T, b []byte) {
	t.Helper()
	starts := wantedStarts(b)
	checkStarts(t, b, starts)
	for at := -1; at <= len(b)+1; at++ {
		line, col := wantedPlace(b, at)
		checkPlace(t, b, at, line, col)
	}
	for line := -1; line <= len(starts)+1; line++ {
		for col := -1; col <= len(b)+3; col++ {
			at, e := wantedOffset(b, line, col)
			checkOffset(t, b, line, col, at, e)
		}
	}
}

func TestWildTexts(t *testing.T) {
	for seed := range uint32(1500) {
		checkWhole(t, wild(seed, int(seed)%24))
	}
}

// Every short text of breaks, whole and broken signs.
func TestShortTexts(t *testing.T) {
	bytesOf := []byte{'\r', '\n', 'a', 0xc3, 0xa9, 0xff}
	texts := [][]byte{nil}
	for range 4 {
		var longer [][]byte
		for _, b := range texts {
			checkWhole(t, b)
			for _, c := range bytesOf {
				longer = append(longer, append(bytes.Clone(b), c))
			}
		}
		texts = longer
	}
}

func TestOffsetTurnsPlaceAbout(t *testing.T) {
	for seed := range uint32(1500) {
		b := wild(seed, int(seed)%80)
		for _, at := range stepEnds(b, 0, len(b)) {
			line, col := Place(b, at)
			if back, e := Offset(b, line, col); back != at || e != api.OK {
				t.Fatalf("P202: %d in %q is at %d, %d; that is %d, %v", at, b, line, col, back, e)
			}
		}
		for i := range Starts(b) {
			for col := 1; ; col++ {
				at, e := Offset(b, i+1, col)
				if e != api.OK {
					break
				}
				if l, c := Place(b, at); l != i+1 || c != col {
					t.Fatalf("P202: %d, %d in %q is %d; that is at %d, %d", i+1, col, b, at, l, c)
				}
			}
		}
	}
}

func TestLongTexts(t *testing.T) {
	for _, size := range []int{api.MaxText, api.MaxText + 1, 4 * api.MaxText} { // the chapter sets no length of its own
		for _, b := range [][]byte{wild(7, size), bytes.Repeat([]byte("\n"), size), bytes.Repeat([]byte{0xff}, size)} {
			checkStarts(t, b, wantedStarts(b))
			for _, at := range []int{0, 1, size / 2, size - 1, size, size + 1} {
				line, col := wantedPlace(b, at)
				checkPlace(t, b, at, line, col)
				if slices.Contains(stepEnds(b, 0, size), at) {
					checkOffset(t, b, line, col, at, api.OK)
				}
			}
		}
	}
}

// P2 and P3: what is handed in stays, its spare room is not read; an answer is nobody else's.
func TestNothingIsSharedOrChanged(t *testing.T) {
	room := []byte("a\nb\r\n\xe2\x82\xac")
	kept := bytes.Clone(room)
	checkStarts(t, room[:4], []int{0, 2, 4}) // the line feed stands in the spare room only
	checkPlace(t, room[:4], 4, 3, 1)
	checkPlace(t, room[:4], 5, 0, 0)
	checkOffset(t, room[:4], 3, 1, 4, api.OK)
	checkOffset(t, room[:4], 2, 3, 0, api.ErrNone)
	checkOffset(t, room[:7], 3, 3, 7, api.OK) // of the last sign two bytes
	first := Starts(room)
	spoil := first[:cap(first)]
	for i := range spoil {
		spoil[i] = -7
	}
	checkStarts(t, room, []int{0, 2, 5})
	checkPlace(t, room, 5, 3, 1)
	if !bytes.Equal(room, kept) {
		t.Errorf("P2: %q became %q", kept, room)
	}
}
