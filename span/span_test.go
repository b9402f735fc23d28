package span

import (
	"math"
	"slices"
	"testing"

	"corrector/api"
)

func of(from, to int) api.Span { return api.Span{From: from, To: to} }

func has(s api.Span, at int) bool { return s.From <= at && at < s.To }

// common is whether two have a byte in common, byte by byte.
func common(a, b api.Span, size int) bool {
	for at := range size {
		if has(a, at) && has(b, at) {
			return true
		}
	}
	return false
}

// within is whether b has each byte of a, byte by byte; of an empty a whether its place is one of b's, b's end too.
func within(a, b api.Span, size int) bool {
	if a.From == a.To {
		return has(b, a.From) || a.From == b.To
	}
	for at := range size {
		if has(a, at) && !has(b, at) {
			return false
		}
	}
	return true
}

// all are the spans of a text of so many bytes.
func all(size int) []api.Span {
	var l []api.Span
	for from := range size + 1 {
		for to := from; to <= size; to++ {
			l = append(l, of(from, to))
		}
	}
	return l
}

func checkIn(t *testing.T, a, b api.Span, want bool) {
	t.Helper()
	if got := In(a, b); got != want {
		t.Errorf("P301: In of %v and %v: %v, not %v", a, b, got, want)
	}
}

func checkMeet(t *testing.T, a, b api.Span, want bool) {
	t.Helper()
	if got := Meet(a, b); got != want {
		t.Errorf("P301: Meet of %v and %v: %v, not %v", a, b, got, want)
	}
}

func checkJoin(t *testing.T, a, b, want api.Span) {
	t.Helper()
	if got := Join(a, b); got != want {
		t.Errorf("P301: Join of %v and %v: %v, not %v", a, b, got, want)
	}
}

func checkSort(t *testing.T, l, want []api.Span) {
	t.Helper()
	if got := Sort(l); !slices.Equal(got, want) {
		t.Fatalf("P301: Sort of %v: %v, not %v", l, got, want)
	}
}

func TestIn(t *testing.T) {
	for _, x := range []struct {
		a, b api.Span
		in   bool
	}{
		{of(2, 4), of(1, 5), true},
		{of(1, 5), of(2, 4), false},
		{of(1, 5), of(1, 5), true}, // each lies in itself
		{of(1, 3), of(1, 5), true},
		{of(3, 5), of(1, 5), true},
		{of(0, 3), of(1, 5), false},
		{of(3, 6), of(1, 5), false},
		{of(5, 6), of(1, 5), false},
		{of(0, 1), of(1, 5), false},
		{of(1, 1), of(1, 5), true}, // an empty one at an edge
		{of(5, 5), of(1, 5), true},
		{of(0, 0), of(1, 5), false},
		{of(6, 6), of(1, 5), false},
		{of(3, 3), of(3, 3), true},
		{of(3, 4), of(3, 3), false},
		{of(0, 0), of(0, math.MaxInt), true},
		{of(math.MinInt, math.MaxInt), of(0, math.MaxInt), false},
		{of(0, math.MaxInt), of(math.MinInt, math.MaxInt), true},
	} {
		checkIn(t, x.a, x.b, x.in)
	}
}

func TestMeet(t *testing.T) {
	for _, x := range []struct {
		a, b api.Span
		meet bool
	}{
		{of(0, 2), of(2, 3), false}, // the chapter's example
		{of(0, 2), of(1, 3), true},
		{of(0, 3), of(2, 3), true},
		{of(0, 2), of(0, 2), true},
		{of(0, 9), of(4, 5), true},
		{of(0, 2), of(3, 4), false},
		{of(1, 1), of(0, 2), true}, // an empty one amid another one, by the words
		{of(0, 0), of(0, 2), false},
		{of(2, 2), of(0, 2), false},
		{of(1, 1), of(1, 1), false},
		{of(math.MinInt, 0), of(0, math.MaxInt), false},
		{of(math.MinInt, 1), of(0, math.MaxInt), true},
	} {
		checkMeet(t, x.a, x.b, x.meet)
		checkMeet(t, x.b, x.a, x.meet)
	}
}

func TestJoin(t *testing.T) {
	for _, x := range []struct{ a, b, join api.Span }{
		{of(0, 2), of(1, 3), of(0, 3)},
		{of(0, 2), of(2, 3), of(0, 3)},
		{of(0, 1), of(5, 6), of(0, 6)}, // what lies between them, too
		{of(0, 9), of(4, 5), of(0, 9)},
		{of(4, 4), of(4, 4), of(4, 4)},
		{of(4, 4), of(7, 9), of(4, 9)},
		{of(0, 0), of(0, 0), of(0, 0)},
		{of(math.MinInt, -1), of(1, math.MaxInt), of(math.MinInt, math.MaxInt)},
	} {
		checkJoin(t, x.a, x.b, x.join)
		checkJoin(t, x.b, x.a, x.join)
	}
}

func TestEveryTwoOfAShortText(t *testing.T) {
	const size = 6
	for _, a := range all(size) {
		for _, b := range all(size) {
			checkIn(t, a, b, within(a, b, size))
			checkMeet(t, a, b, a.From < b.To && b.From < a.To)
			join := Join(a, b)
			checkIn(t, a, join, true)
			checkIn(t, b, join, true)
			for _, s := range all(size) {
				if within(a, s, size) && within(b, s, size) && !within(join, s, size) {
					t.Errorf("P301: Join of %v and %v: %v, though both are in %v", a, b, join, s)
				}
			}
		}
	}
}

// P302: where both have bytes, to meet is to have one in common.
func TestThoseThatMeetHaveAByteInCommon(t *testing.T) {
	const size = 6
	for _, a := range all(size) {
		for _, b := range all(size) {
			if a.From == a.To || b.From == b.To {
				continue
			}
			if got := Meet(a, b); got != common(a, b, size) {
				t.Errorf("P302: Meet of %v and %v: %v", a, b, got)
			}
		}
	}
}

func TestSort(t *testing.T) {
	for _, x := range []struct{ l, want []api.Span }{
		{nil, nil},
		{[]api.Span{}, nil},
		{[]api.Span{of(0, 0)}, []api.Span{of(0, 0)}},
		{[]api.Span{of(3, 4), of(1, 2)}, []api.Span{of(1, 2), of(3, 4)}},
		{[]api.Span{of(1, 9), of(1, 2)}, []api.Span{of(1, 2), of(1, 9)}},                     // by To where From is the same
		{[]api.Span{of(2, 3), of(1, 9)}, []api.Span{of(1, 9), of(2, 3)}},                     // by From first
		{[]api.Span{of(2, 2), of(2, 1<<40), of(2, 2)}, []api.Span{of(2, 2), of(2, 1<<40)}},   // each once
		{[]api.Span{of(0, 1), of(0, 1), of(0, 1), of(0, 1)}, []api.Span{of(0, 1)}},           // all the same
		{[]api.Span{of(0, 5), of(1, 5), of(0, 5)}, []api.Span{of(0, 5), of(1, 5)}},           // the same, one between
		{[]api.Span{of(0, 0), of(0, 1), of(1, 1)}, []api.Span{of(0, 0), of(0, 1), of(1, 1)}}, // in order already
		{[]api.Span{of(math.MaxInt, math.MaxInt), of(math.MinInt, 0)}, []api.Span{of(math.MinInt, 0), of(math.MaxInt, math.MaxInt)}},
	} {
		checkSort(t, x.l, x.want)
	}
}

// wantedSort is P301's Sort by its words: the least of those above the last one, again and again.
func wantedSort(l []api.Span) []api.Span {
	above := func(a, b api.Span) bool { return a.From > b.From || a.From == b.From && a.To > b.To }
	var sorted []api.Span
	for {
		var next []api.Span
		for _, s := range l {
			if len(sorted) > 0 && !above(s, sorted[len(sorted)-1]) {
				continue
			}
			if next == nil || above(next[0], s) {
				next = []api.Span{s}
			}
		}
		if next == nil {
			return sorted
		}
		sorted = append(sorted, next[0])
	}
}

// wild are spans that differ from seed to seed, some of them often the same.
func wild(seed uint32, count, size int) []api.Span {
	number := func(n int) int {
		seed = seed*1664525 + 1013904223
		return int(seed>>8) % n
	}
	var l []api.Span
	for range count {
		from := number(size)
		l = append(l, of(from, from+number(size)))
	}
	return l
}

func TestSortOfWildLists(t *testing.T) {
	for seed := range uint32(1500) {
		l := wild(seed, int(seed)%40, 1+int(seed)%9)
		checkSort(t, l, wantedSort(l))
	}
}

// The chapter sets no count of its own.
func TestSortOfManySpans(t *testing.T) {
	const count = 100_000
	var want, falling []api.Span
	for at := range count {
		want = append(want, of(at, at+1))
		falling = append(falling, of(count-1-at, count-at))
	}
	checkSort(t, falling, want)
	checkSort(t, append(falling, want...), want)
	checkSort(t, slices.Repeat([]api.Span{of(1, 2)}, count), []api.Span{of(1, 2)})
}

// P1 and P8: spans that end ahead of their beginning are none; the calls end all the same.
func TestSpansThatAreNone(t *testing.T) {
	numbers := []int{math.MinInt, -3, 0, 2, math.MaxInt}
	var l []api.Span
	for _, from := range numbers {
		for _, to := range numbers {
			l = append(l, of(from, to))
		}
	}
	kept := slices.Clone(l)
	for _, a := range l {
		for _, b := range l {
			In(a, b)
			Meet(a, b)
			Join(a, b)
		}
	}
	Sort(l)
	if !slices.Equal(l, kept) {
		t.Errorf("P2: %v became %v", kept, l)
	}
}

// P2 and P3: what is handed in stays, its spare room is not read; an answer is nobody else's.
func TestNothingIsSharedOrChanged(t *testing.T) {
	room := []api.Span{of(3, 4), of(1, 9), of(3, 3), of(1, 9), of(0, 7)}
	kept := slices.Clone(room)
	want := []api.Span{of(1, 9), of(3, 3), of(3, 4)}
	l := room[:4] // the least one stands in the spare room only
	first := Sort(l)
	if !slices.Equal(first, want) {
		t.Fatalf("P301: %v, not %v", first, want)
	}
	spoil := first[:cap(first)]
	for i := range spoil {
		spoil[i] = of(-7, -7)
	}
	checkSort(t, l, want)
	if !slices.Equal(room, kept) {
		t.Errorf("P2: %v became %v", kept, room)
	}
	sorted := slices.Clone(want)
	again := Sort(sorted) // in order already: new memory all the same
	again[0] = of(-7, -7)
	if !slices.Equal(sorted, want) {
		t.Errorf("P2: %v became %v", want, sorted)
	}
}

// The heap beneath Sort takes nothing in that is no span.
func TestHeapTakesSpansOnly(t *testing.T) {
	h := &least{}
	for _, x := range []any{nil, 3, "x", &api.Span{}, api.Edit{}} {
		h.Push(x)
	}
	if h.Len() != 0 {
		t.Errorf("P1: a heap of spans holds %v", h.spans)
	}
}
