package edit

import (
	"bytes"
	"fmt"
	"math"
	"slices"
	"sort"
	"strings"
	"testing"

	"corrector/api"
)

func of(from, to int, put string) api.Edit { return api.Edit{From: from, To: to, Put: put} }

func list(l ...api.Edit) []api.Edit { return l }

// long is a put of so many bytes.
func long(n int) string { return strings.Repeat("x", n) }

// row are so many edits, one behind the other, each of one byte.
func row(count int) []api.Edit {
	var l []api.Edit
	for at := range count {
		l = append(l, of(at, at+1, ""))
	}
	return l
}

// show tells a list, long puts by their length.
func show(l []api.Edit) string {
	var b strings.Builder
	for i, e := range l {
		if i == 12 {
			fmt.Fprintf(&b, " .. (%d)", len(l))
			break
		}
		put := fmt.Sprintf("%q", e.Put)
		if len(e.Put) > 20 {
			put = fmt.Sprintf("(%d bytes)", len(e.Put))
		}
		fmt.Fprintf(&b, " %d-%d %s", e.From, e.To, put)
	}
	return "[" + b.String() + " ]"
}

// wantedCheck is P401's Check by its words.
func wantedCheck(n int, l []api.Edit) api.Errno {
	if len(l) > 200 {
		return api.ErrMany
	}
	for i, e := range l {
		switch {
		case !(0 <= e.From && e.From <= e.To && e.To <= n):
			return api.ErrArg
		case len(e.Put) > 1000:
			return api.ErrLong
		case i > 0 && e.From < l[i-1].To:
			return api.ErrOver
		}
	}
	return api.OK
}

// wantedText is b with each put in the place of its bytes, from the last edit to the first, so that places stay.
func wantedText(b string, l []api.Edit) string {
	for i := len(l) - 1; i >= 0; i-- {
		b = b[:l[i].From] + l[i].Put + b[l[i].To:]
	}
	return b
}

func wantedApply(b string, l []api.Edit) (string, api.Errno) {
	if e := wantedCheck(len(b), l); e != api.OK {
		return "", e
	}
	text := wantedText(b, l)
	if len(text) > 1<<14 {
		return "", api.ErrLong
	}
	return text, api.OK
}

// wantedMap is P402's Map by its words: what stands ahead of the place is made, and its length told.
func wantedMap(b string, l []api.Edit, at int) int {
	for i, e := range l {
		if e.From < at && at < e.To {
			return len(wantedText(b[:e.To], l[:i+1]))
		}
	}
	moved := at
	for _, e := range l {
		if e.To <= at {
			moved += len(e.Put) - (e.To - e.From)
		}
	}
	return moved
}

// wantedChoose is P402's Choose by its words.
func wantedChoose(n int, l []api.Edit) []api.Edit {
	var taken []api.Edit
	for _, e := range l {
		allowed := wantedCheck(n, list(e)) == api.OK && len(taken) < 200
		for _, x := range taken {
			if e.From < x.To && x.From < e.To || e.From == x.From && e.To == x.To {
				allowed = false
			}
		}
		if allowed {
			taken = append(taken, e)
		}
	}
	sort.SliceStable(taken, func(i, j int) bool {
		a, b := taken[i], taken[j]
		return a.From < b.From || a.From == b.From && a.To < b.To
	})
	return taken
}

func checkCheck(t *testing.T, n int, l []api.Edit, want api.Errno) {
	t.Helper()
	if e := Check(n, l); e != want {
		t.Fatalf("P401: Check of %d and %v: %v, not %v", n, show(l), e, want)
	}
}

func checkApply(t *testing.T, b string, l []api.Edit, want string, wantE api.Errno) {
	t.Helper()
	text, e := Apply([]byte(b), l)
	if string(text) != want || e != wantE {
		t.Fatalf("P401: Apply of %v to %d bytes: %d bytes, %v, not %d, %v", show(l), len(b), len(text), e, len(want), wantE)
	}
	if e != api.OK && text != nil {
		t.Fatalf("P4: Apply of %v: a text beside %v", show(l), e)
	}
}

func checkMap(t *testing.T, l []api.Edit, at, want int) {
	t.Helper()
	if got := Map(l, at); got != want {
		t.Fatalf("P402: Map of %v and %d: %d, not %d", show(l), at, got, want)
	}
}

func checkChoose(t *testing.T, n int, l, want []api.Edit) {
	t.Helper()
	got := Choose(n, l)
	if !slices.Equal(got, want) {
		t.Fatalf("P402: Choose of %d and %v: %v, not %v", n, show(l), show(got), show(want))
	}
	if e := Check(n, got); e != api.OK {
		t.Fatalf("P403: Choose of %d and %v: %v; Check says %v", n, show(l), show(got), e)
	}
}

func TestCheck(t *testing.T) {
	for _, x := range []struct {
		n int
		l []api.Edit
		e api.Errno
	}{
		{0, nil, api.OK},
		{9, list(), api.OK},
		{0, list(of(0, 0, "a")), api.OK},
		{3, list(of(0, 3, "")), api.OK},
		{3, list(of(3, 3, "z")), api.OK}, // the end is a place, too
		{3, list(of(0, 4, "")), api.ErrArg},
		{3, list(of(4, 4, "")), api.ErrArg},
		{3, list(of(-1, 0, "")), api.ErrArg},
		{3, list(of(-1, -1, "")), api.ErrArg},
		{3, list(of(2, 1, "")), api.ErrArg},
		{-1, list(of(0, 0, "")), api.ErrArg},
		{-1, list(of(-1, -1, "")), api.ErrArg},
		{3, list(of(math.MinInt, math.MaxInt, "")), api.ErrArg},
		{3, list(of(math.MaxInt, math.MinInt, "")), api.ErrArg},
		{math.MaxInt, list(of(math.MaxInt, math.MaxInt, "")), api.OK}, // n has no bound of its own
		{0, list(of(0, 0, long(1000))), api.OK},
		{0, list(of(0, 0, long(1001))), api.ErrLong},
		{5, list(of(0, 2, ""), of(2, 4, "")), api.OK},
		{5, list(of(0, 3, ""), of(2, 4, "")), api.ErrOver},
		{5, list(of(2, 4, ""), of(0, 2, "")), api.ErrOver}, // out of order
		{5, list(of(2, 2, "a"), of(2, 2, "b"), of(2, 4, "c"), of(4, 4, "d")), api.OK},
		{5, list(of(2, 4, "c"), of(2, 2, "a")), api.ErrOver},
		{5, list(of(2, 4, ""), of(3, 3, "")), api.ErrOver},
		{5, list(of(0, 4, ""), of(4, 4, ""), of(3, 5, "")), api.ErrOver},
		{400, row(200), api.OK},
		{400, row(201), api.ErrMany},
	} {
		checkCheck(t, x.n, x.l, x.e)
	}
}

// P6: the count first; then the first edit's error; of one edit in the order of the words.
func TestCheckOfSeveralErrors(t *testing.T) {
	arg, tooLong, over := of(1, 9, ""), of(2, 3, long(1001)), of(1, 2, "")
	first := of(0, 2, "")
	for _, x := range []struct {
		l []api.Edit
		e api.Errno
	}{
		{append(list(arg, tooLong), row(199)...), api.ErrMany},
		{append(list(arg, tooLong), row(198)...), api.ErrArg},
		{list(of(1, 9, long(1001))), api.ErrArg},
		{list(first, of(1, 9, long(1001))), api.ErrArg},
		{list(first, of(1, 2, long(1001))), api.ErrLong},
		{list(first, over, arg), api.ErrOver},
		{list(first, over, tooLong), api.ErrOver},
		{list(first, tooLong, over), api.ErrLong},
		{list(first, tooLong, arg), api.ErrLong},
		{list(arg, tooLong, over), api.ErrArg},
		{list(first, of(0, 3, ""), of(-1, 0, "")), api.ErrOver},
	} {
		checkCheck(t, 3, x.l, x.e)
		checkApply(t, "abc", x.l, "", x.e)
	}
}

func TestApply(t *testing.T) {
	for _, x := range []struct {
		b    string
		l    []api.Edit
		want string
	}{
		{"", nil, ""},
		{"abc", nil, "abc"},
		{"", list(of(0, 0, "x")), "x"},
		{"", list(of(0, 0, "x"), of(0, 0, "y")), "xy"}, // in the order of the list
		{"abc", list(of(0, 3, "")), ""},
		{"abc", list(of(1, 2, "")), "ac"},
		{"abc", list(of(1, 2, "XYZ")), "aXYZc"},
		{"abc", list(of(0, 0, "<"), of(3, 3, ">")), "<abc>"},
		{"abc", list(of(0, 1, "1"), of(1, 2, "2"), of(2, 3, "3")), "123"},
		{"abc", list(of(0, 1, ""), of(1, 1, "x"), of(1, 2, "")), "xc"},
		{"abc", list(of(2, 2, "")), "abc"},
		{"\xff\xc3\x00\r\n", list(of(1, 3, "\xa9\xfe")), "\xff\xa9\xfe\r\n"}, // any bytes
	} {
		checkApply(t, x.b, x.l, x.want, api.OK)
	}
}

func TestApplyOfLongTexts(t *testing.T) {
	full := long(1 << 14)
	checkApply(t, full, nil, full, api.OK)
	checkApply(t, full, list(of(7, 7, "")), full, api.OK)
	checkApply(t, full, list(of(0, 0, "a")), "", api.ErrLong)
	checkApply(t, full, list(of(0, 1, "a")), "a"+full[1:], api.OK)
	checkApply(t, full, list(of(0, 0, "a"), of(5, 6, "")), "a"+full[1:], api.OK) // what comes out counts, not what is on its way
	checkApply(t, full[2:], list(of(0, 0, "ab")), "ab"+full[2:], api.OK)
	checkApply(t, full[2:], list(of(0, 0, "abc")), "", api.ErrLong)
	checkApply(t, full+"yz", nil, "", api.ErrLong)
	checkApply(t, full+"yz", list(of(0, 1, "")), "", api.ErrLong)
	checkApply(t, full+"yz", list(of(0, 2, "")), full[2:]+"yz", api.OK)
	checkApply(t, full+"yz", list(of(0, 2, ""), of(1, 3, "")), "", api.ErrOver) // Check's error first
	var puts []api.Edit
	for range 16 {
		puts = append(puts, of(0, 0, long(1000)))
	}
	checkApply(t, full[:384], puts, full, api.OK)
	checkApply(t, full[:385], puts, "", api.ErrLong)
}

func TestMap(t *testing.T) {
	l := list(of(0, 0, "ab"), of(2, 5, "X"), of(5, 5, "yz"), of(5, 7, "1234"), of(9, 9, ""))
	for at, want := range []int{
		2, 3, // behind what is put at a place
		4,    // an edit's beginning
		5, 5, // amid it: behind its put, ahead of what is put at its end
		7,  // its end, behind what is put there
		11, // amid an edit: behind its put
		11, // its end
		12, 13, 14, 15,
	} {
		checkMap(t, l, at, want)
	}
	for _, at := range []int{0, 1, 77, math.MaxInt} {
		checkMap(t, nil, at, at)
		checkMap(t, list(of(5, 5, "")), at, at)
	}
	checkMap(t, list(of(0, 4, "")), 3, 0)
	checkMap(t, list(of(0, 4, "")), 4, 0)
	checkMap(t, list(of(1, 2, "q")), 1, 1)
	checkMap(t, list(of(1, 2, "q")), 2, 2)
}

func TestChoose(t *testing.T) {
	for _, x := range []struct {
		n       int
		l, want []api.Edit
	}{
		{9, nil, nil},
		{9, list(of(3, 3, "a"), of(3, 3, "b")), list(of(3, 3, "a"))}, // the chapter's example
		{9, list(of(3, 3, "a"), of(3, 3, "a")), list(of(3, 3, "a"))},
		{9, list(of(3, 4, "a"), of(3, 4, "b")), list(of(3, 4, "a"))},
		{9, list(of(5, 6, "a"), of(1, 2, "b")), list(of(1, 2, "b"), of(5, 6, "a"))},
		{9, list(of(2, 5, "a"), of(2, 2, "b")), list(of(2, 2, "b"), of(2, 5, "a"))}, // by To where From is the same
		{9, list(of(2, 2, "b"), of(2, 5, "a")), list(of(2, 2, "b"), of(2, 5, "a"))},
		{9, list(of(5, 5, "b"), of(2, 5, "a")), list(of(2, 5, "a"), of(5, 5, "b"))},
		{9, list(of(2, 5, "a"), of(3, 3, "b")), list(of(2, 5, "a"))}, // amid
		{9, list(of(3, 3, "b"), of(2, 5, "a")), list(of(3, 3, "b"))},
		{9, list(of(2, 5, "a"), of(4, 6, "b"), of(5, 6, "c")), list(of(2, 5, "a"), of(5, 6, "c"))}, // of those taken only
		{9, list(of(4, 6, "b"), of(2, 5, "a"), of(5, 9, "c"), of(0, 4, "d")), list(of(0, 4, "d"), of(4, 6, "b"))},
		{9, list(of(2, 8, "a"), of(1, 9, "b"), of(3, 4, "c"), of(2, 3, "d"), of(7, 8, "e")), list(of(2, 8, "a"))},
		{3, list(of(2, 4, "a"), of(-1, 1, "b"), of(2, 1, "c"), of(0, 1, long(1001)), of(3, 3, "d"), of(0, 1, long(1000))), list(of(0, 1, long(1000)), of(3, 3, "d"))},
		{0, list(of(0, 1, ""), of(0, 0, "")), list(of(0, 0, ""))},
		{-1, list(of(0, 0, ""), of(-1, -1, ""), of(-2, -1, "")), nil},
		{math.MinInt, list(of(math.MinInt, math.MinInt, "")), nil},
	} {
		checkChoose(t, x.n, x.l, x.want)
	}
}

func TestChooseOfMany(t *testing.T) {
	l := row(300)
	checkChoose(t, 300, l, l[:200])
	falling := slices.Clone(l)
	slices.Reverse(falling)
	checkChoose(t, 300, falling, l[100:]) // the first of the list, not the first of the text
	checkChoose(t, 300, l[:200], l[:200])
	// Those that are not taken don't count.
	checkChoose(t, 300, append(slices.Repeat(list(of(0, 301, ""), of(299, 300, "")), 300), l...), append(row(199), of(299, 300, "")))
	checkChoose(t, 3, slices.Repeat(list(of(1, 2, "a"), of(2, 1, "")), 50_000), list(of(1, 2, "a")))
}

// edits are all those of a text of so many bytes with one of some puts, and some that are wrong.
func edits(size int) []api.Edit {
	l := list(of(-1, 0, ""), of(2, 1, ""), of(size, size+1, "z"), of(0, 1, long(1001)))
	for from := range size + 1 {
		for to := from; to <= size; to++ {
			for _, put := range []string{"", "X", "YZW"} {
				l = append(l, of(from, to, put))
			}
		}
	}
	return l
}

func checkAll(t *testing.T, b string, l []api.Edit) {
	t.Helper()
	e := wantedCheck(len(b), l)
	checkCheck(t, len(b), l, e)
	text, applyE := wantedApply(b, l)
	checkApply(t, b, l, text, applyE)
	checkChoose(t, len(b), l, wantedChoose(len(b), l))
	if e != api.OK {
		return
	}
	for at := range len(b) + 3 {
		checkMap(t, l, at, wantedMap(b, l, at))
	}
}

// Every list of up to three edits of a short text.
func TestShortLists(t *testing.T) {
	const b = "abc"
	all := edits(len(b))
	checkAll(t, b, nil)
	for _, x := range all {
		checkAll(t, b, list(x))
		for _, y := range all {
			checkAll(t, b, list(x, y))
			for _, z := range all {
				checkAll(t, b, list(x, y, z))
			}
		}
	}
}

// dice tells numbers that differ from seed to seed.
func dice(seed uint32) func(n int) int {
	return func(n int) int {
		seed = seed*1664525 + 1013904223
		return int(seed>>8) % n
	}
}

// wild are edits of a text of n bytes; some of them are wrong.
func wild(number func(n int) int, count, n int) []api.Edit {
	var l []api.Edit
	for range count {
		from := number(n+2) - number(8)/7
		l = append(l, of(from, from+number(5)-number(9)/8, long(number(4))))
	}
	return l
}

// apart are edits that Check allows.
func apart(number func(n int) int, count, n int) []api.Edit {
	var l []api.Edit
	at := 0
	for range count {
		from := min(n, at+number(4))
		at = min(n, from+number(4))
		l = append(l, of(from, at, "+-*/"[:number(5)]))
	}
	return l
}

// unlike is a text of bytes of which no two that stand near are the same.
func unlike(n int) string {
	b := make([]byte, n)
	for i := range b {
		b[i] = byte(128 + i%128)
	}
	return string(b)
}

func TestWildLists(t *testing.T) {
	for seed := range uint32(3000) {
		number := dice(seed)
		n := number(60)
		checkAll(t, unlike(n), wild(number, number(30), n))
		checkAll(t, unlike(n), apart(number, number(30), n))
	}
	for seed := range uint32(20) {
		number := dice(seed)
		checkAll(t, unlike(900), wild(number, 900, 900))
		checkAll(t, unlike(900), apart(number, 195+number(10), 900))
	}
}

// touched tells whether an edit has the byte at a place.
func touched(l []api.Edit, at int) bool {
	return slices.ContainsFunc(l, func(e api.Edit) bool { return e.From <= at && at < e.To })
}

// P403: what no edit touches stands in the new text, where Map says, and in order.
func TestWhatNoEditTouchesSurvives(t *testing.T) {
	for seed := range uint32(3000) {
		number := dice(seed)
		b := unlike(number(120))
		l := apart(number, number(30), len(b))
		text, e := Apply([]byte(b), l)
		if e != api.OK {
			t.Fatalf("P401: %v: %v", show(l), e)
		}
		last, kept := -1, 0
		for at := range len(b) {
			if touched(l, at) {
				continue
			}
			then := Map(l, at)
			if then <= last || then >= len(text) || text[then] != b[at] {
				t.Fatalf("P403: by %v %q became %q: the byte at %d is not at %d", show(l), b, text, at, then)
			}
			last = then
			kept++
		}
		for _, e := range l {
			kept += len(e.Put)
		}
		if kept != len(text) || Map(l, len(b)) != len(text) {
			t.Fatalf("P403: by %v %q became %q: %d bytes have a reason; its end is at %d", show(l), b, text, kept, Map(l, len(b)))
		}
	}
}

// P403: what Choose tells Check allows, and it says itself again.
func TestChooseOfWhatItTells(t *testing.T) {
	for seed := range uint32(1000) {
		number := dice(seed)
		n := number(300)
		first := Choose(n, wild(number, number(400), n))
		checkChoose(t, n, first, first)
	}
}

// P1 and P8: lists and places that may not be; the calls end all the same.
func TestWhatMayNotBe(t *testing.T) {
	numbers := []int{math.MinInt, -1, 0, 2, 4, math.MaxInt}
	var l []api.Edit
	for _, from := range numbers {
		for _, to := range numbers {
			l = append(l, of(from, to, "x"))
		}
	}
	kept := slices.Clone(l)
	for _, n := range numbers {
		checkCheck(t, n, l, wantedCheck(n, l))
		checkChoose(t, n, l, wantedChoose(n, l))
		Map(l, n)
		for _, e := range l {
			checkCheck(t, n, list(e), wantedCheck(n, list(e)))
			Map(list(e), n)
		}
	}
	for i := range l {
		checkApply(t, "abc", l[i:], "", wantedCheck(3, l[i:]))
	}
	if !slices.Equal(l, kept) {
		t.Errorf("P2: %v became %v", show(kept), show(l))
	}
}

// P2 and P3: what is handed in stays, its spare room is not read or written; an answer is nobody else's.
func TestApplySharesNothing(t *testing.T) {
	room := []byte("abcdefgh")
	kept := bytes.Clone(room)
	editRoom := list(of(1, 2, "XYZ"), of(3, 3, "+"), of(5, 9, "-"))
	keptEdits := slices.Clone(editRoom)
	for range 2 {
		text, e := Apply(room[:5], editRoom[:2])
		if string(text) != "aXYZc+de" || e != api.OK {
			t.Fatalf("P401: %q, %v", text, e)
		}
		spoil := text[:cap(text)]
		for i := range spoil {
			spoil[i] = '!'
		}
		checkMap(t, editRoom[:2], 5, 8)
		checkCheck(t, 5, editRoom[:2], api.OK)
	}
	same, _ := Apply(room, nil) // nothing to do: new memory all the same
	same[0] = '!'
	if !bytes.Equal(room, kept) || !slices.Equal(editRoom, keptEdits) {
		t.Errorf("P2: %q became %q, %v %v", kept, room, show(keptEdits), show(editRoom))
	}
}

func TestChooseSharesNothing(t *testing.T) {
	room := list(of(4, 5, "a"), of(1, 2, "b"), of(4, 6, "c"), of(2, 3, "d"), of(0, 0, "e"))
	kept := slices.Clone(room)
	want := list(of(1, 2, "b"), of(2, 3, "d"), of(4, 5, "a"))
	for range 2 {
		got := Choose(9, room[:4])
		if !slices.Equal(got, want) {
			t.Fatalf("P402: %v, not %v", show(got), show(want))
		}
		spoil := got[:cap(got)]
		for i := range spoil {
			spoil[i] = of(-7, -7, "!")
		}
	}
	one := list(of(1, 1, "a"), of(2, 2, "b"))
	taken := Choose(9, one) // in order already: new memory all the same
	taken[0] = of(-7, -7, "!")
	if !slices.Equal(room, kept) || one[0] != of(1, 1, "a") {
		t.Errorf("P2: %v became %v", show(kept), show(room))
	}
}
