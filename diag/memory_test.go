package diag

import (
	"bytes"
	"slices"
	"strings"
	"testing"
	"time"

	"corrector/api"
)

// P2, P3: what is handed in, its spare room too, is neither read nor changed; an answer is nobody else's.
func TestNothingIsSharedOrChanged(t *testing.T) {
	room := []api.Diag{of(3, 3, 4), of(1, 1, 9), of(2, 3, 3), of(1, 1, 9), of(5, 0, 7), of(6, 0, 2)}
	kept := slices.Clone(room)
	want := []api.Diag{of(1, 1, 9), of(2, 3, 3), of(3, 3, 4)}
	l := room[:4] // the first ones in order stand in the spare room only
	first := Sort(l)
	if !slices.Equal(first, want) {
		t.Fatalf("P1401: %v, not %v", first, want)
	}
	second := Sort(l)
	spoil := first[:cap(first)]
	for i := range spoil {
		spoil[i] = of(-7, -7, -7)
	}
	if !slices.Equal(second, want) {
		t.Errorf("P2: an answer became %v", second)
	}
	checkSort(t, l, want)
	if !slices.Equal(room, kept) {
		t.Errorf("P2: %v became %v", kept, room)
	}
	sorted := slices.Clone(want)
	again := Sort(sorted) // in order already: new memory all the same
	again[0] = of(-7, -7, -7)
	if !slices.Equal(sorted, want) {
		t.Errorf("P2: %v became %v", want, sorted)
	}
	clear(sorted)
	if !slices.Equal(again[1:], want[1:]) {
		t.Errorf("P2: an answer became %v", again)
	}
}

func TestRenderKeepsAndChangesNothing(t *testing.T) {
	room, list := []byte("a\nb]\n\n spare"), []api.Diag{of(8, 3, 4), of(1, 0, 9), of(8, 0, 1), of(9, 1, 2)}
	b, l := room[:4], list[:3]
	const want = "2:2 2:3 stray\n1:1 1:2 stray\n"
	first := Render(b, l)
	if first != want || Render(b, l) != want {
		t.Fatalf("P1401: %q, not %q", first, want)
	}
	if string(room) != "a\nb]\n\n spare" || !slices.Equal(list, []api.Diag{of(8, 3, 4), of(1, 0, 9), of(8, 0, 1), of(9, 1, 2)}) {
		t.Errorf("P2: became %q, %v", room, list)
	}
	// It isn't kept: another text at the same place in memory has places of its own.
	room[0], room[1], room[2] = '\n', '\n', '\n'
	clear(list[1:])
	if got := Render(b, l); got != "4:1 4:2 stray\n1:1 1:1 what\n1:1 1:1 what\n" || first != want {
		t.Errorf("P2: %q behind %q", got, first)
	}
}

// P2: no list and an empty one are the same.
func TestNone(t *testing.T) {
	if len(Sort(nil)) != 0 || len(Sort([]api.Diag{})) != 0 {
		t.Error("P1401: Sort of none is some")
	}
	for _, b := range [][]byte{nil, {}, []byte("a")} {
		if Render(b, nil) != "" || Render(b, []api.Diag{}) != "" {
			t.Errorf("P1401: Render of none of %q is some", b)
		}
	}
	if Render(nil, []api.Diag{of(1, 0, 0)}) != Render([]byte{}, []api.Diag{of(1, 0, 0)}) {
		t.Error("P2: no bytes and an empty list differ")
	}
}

// The chapter sets no count: any list is put in order, in time.
func TestSortOfMany(t *testing.T) {
	const count = 100_000
	began := time.Now()
	var want, falling []api.Diag
	for at := range count {
		want = append(want, of(at%3, at/2, at))
		falling = append(falling, of((count-1-at)%3, (count-1-at)/2, count-1-at))
	}
	checkSort(t, want, want)
	checkSort(t, falling, want)
	checkSort(t, append(falling, want...), want)
	checkSort(t, slices.Repeat([]api.Diag{of(1, 2, 3)}, count), []api.Diag{of(1, 2, 3)})
	if took := time.Since(began); took > 20*time.Second {
		t.Errorf("P1: took %v", took)
	}
}

// P1: of longest texts all that can be told is, in time.
func TestRenderOfLongestTexts(t *testing.T) {
	for _, piece := range []string{"a", "\n", "\r\n", "]\n", "\xff"} {
		began := time.Now()
		b := []byte(strings.Repeat(piece, api.MaxText/len(piece)))
		var l []api.Diag
		for at := range b {
			l = append(l, of(at%13, at, at+1))
		}
		got := strings.Split(Render(b, append(l, l...)), "\n")
		if len(got) != 2*len(l)+1 || !slices.Equal(got[:len(l)], got[len(l):2*len(l)]) {
			t.Errorf("P1401: many %q: %d lines of %d", piece, len(got), 2*len(l))
		}
		for _, i := range []int{0, 1, 12, len(l) / 2, len(l) - 1} {
			if want := wantedRender(b, l[i:i+1]); got[i]+"\n" != want {
				t.Errorf("P1401: many %q: %q, not %q", piece, got[i], want)
			}
		}
		if took := time.Since(began); took > 20*time.Second {
			t.Errorf("P1: many %q took %v", piece, took)
		}
	}
}

// P1: many of few places are told in time, however far behind these stand.
func TestRenderOfManyOfFewPlaces(t *testing.T) {
	const count = 1 << 20
	began := time.Now()
	got := Render(bytes.Repeat([]byte("a"), api.MaxText), slices.Repeat([]api.Diag{of(api.DBad, api.MaxText-1, api.MaxText)}, count))
	if got != strings.Repeat("1:16384 1:16385 byte\n", count) {
		t.Errorf("P1401: %d bytes", len(got))
	}
	if took := time.Since(began); took > 20*time.Second {
		t.Errorf("P1: took %v", took)
	}
}

// The heap beneath Sort takes nothing in that is no diagnostic.
func TestHeapTakesDiagnosticsOnly(t *testing.T) {
	h := &least{}
	for _, x := range []any{nil, 3, "x", &api.Diag{}, api.Span{}} {
		h.Push(x)
	}
	if h.Len() != 0 {
		t.Errorf("P1: a heap of diagnostics holds %v", h.diags)
	}
}
