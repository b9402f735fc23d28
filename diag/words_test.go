package diag

import (
	"fmt"
	"math"
	"slices"
	"strings"
	"testing"

	"corrector/api"
	"corrector/lines"
	"corrector/parse"
)

// ahead tells whether one stands ahead of another one, by the words: From, then To, then Code.
func ahead(a, b api.Diag) bool {
	if a.From != b.From {
		return a.From < b.From
	}
	if a.To != b.To {
		return a.To < b.To
	}
	return a.Code < b.Code
}

// wantedSort is P1401's Sort by its words: the first one of those behind the last one, again and again.
func wantedSort(l []api.Diag) []api.Diag {
	var sorted []api.Diag
	for {
		var next []api.Diag
		for _, d := range l {
			if len(sorted) > 0 && !ahead(sorted[len(sorted)-1], d) {
				continue
			}
			if next == nil || ahead(d, next[0]) {
				next = []api.Diag{d}
			}
		}
		if next == nil {
			return sorted
		}
		sorted = append(sorted, next[0])
	}
}

func wantedText(code int) string {
	for i, word := range strings.Fields("byte tab quote escape mixed indent second stray open deep alias") {
		if i+1 == code {
			return word
		}
	}
	return "what"
}

// wantedRender is P1401's Render by its words.
func wantedRender(b []byte, l []api.Diag) string {
	out := ""
	for _, d := range l {
		if d.From < 0 || d.From > len(b) || d.To < 0 || d.To > len(b) {
			continue
		}
		line, col := lines.Place(b, d.From)
		toLine, toCol := lines.Place(b, d.To)
		out += fmt.Sprintf("%d:%d %d:%d %s\n", line, col, toLine, toCol, wantedText(d.Code))
	}
	return out
}

// checkSorted holds Sort against the words and P1402.
func checkSorted(t *testing.T, l []api.Diag) {
	t.Helper()
	checkSort(t, l, wantedSort(l))
	checkOnce(t, l, Sort(l))
}

// checkOnce tells whether nothing stands twice, and nothing is lost or new.
func checkOnce(t *testing.T, l, sorted []api.Diag) {
	t.Helper()
	in := map[api.Diag]bool{}
	for _, d := range l {
		in[d] = true
	}
	for i, d := range sorted {
		if !in[d] || slices.Contains(sorted[:i], d) {
			t.Fatalf("P1402: Sort of %v: %v", l, sorted)
		}
	}
	if len(sorted) != len(in) {
		t.Fatalf("P1402: Sort of %v: %v", l, sorted)
	}
}

// Every list of up to six of some, each as often as may be.
func TestEveryShortList(t *testing.T) {
	some := []api.Diag{of(1, 0, 0), of(2, 0, 0), of(1, 0, 1), of(0, 1, 0), of(-1, 1, 1)}
	lists := [][]api.Diag{nil}
	for range 7 {
		var longer [][]api.Diag
		for _, l := range lists {
			checkSorted(t, l)
			for _, d := range some {
				longer = append(longer, append(slices.Clone(l), d))
			}
		}
		lists = longer
	}
}

// Each two of all numbers in all fields.
func TestEveryTwo(t *testing.T) {
	var all []api.Diag
	for _, code := range []int{math.MinInt, -1, 0, math.MaxInt} {
		for _, from := range []int{math.MinInt, 0, 7, math.MaxInt} {
			for _, to := range []int{math.MinInt, -1, 7, math.MaxInt} {
				all = append(all, of(code, from, to))
			}
		}
	}
	for _, a := range all {
		for _, b := range all {
			checkSorted(t, []api.Diag{a, b})
		}
	}
	checkSorted(t, all)
	checkSorted(t, append(slices.Clone(all), all...))
}

// die throws, always the same.
type die uint32

func (d *die) of(n int) int {
	*d = *d*1664525 + 1013904223
	return int(*d>>8) % n
}

// wildList are diagnostics of a text of so many bytes, some of them outside, some of them often the same.
func (d *die) wildList(size int) []api.Diag {
	var l []api.Diag
	for range d.of(30) {
		l = append(l, of(d.of(15)-1, d.of(size+3)-1, d.of(size+3)-1))
	}
	return l
}

// wildText is one of bytes, breaks and pieces of signs.
func (d *die) wildText() string {
	pieces := []string{"a", " ", "\t", "\n", "\r", "\r\n", "\n\r", "é", "€", "😀", "\xc3", "\xe2\x82", "\xf0\x9f", "\x80", "\xff", "]", "- ", "k: ", "'", "\"\\q", "[", "---\n"}
	text := ""
	for range d.of(25) {
		text += pieces[d.of(len(pieces))]
	}
	return text
}

func TestWildLists(t *testing.T) {
	d := die(1401)
	for range 6000 {
		text := d.wildText()
		l := d.wildList(len(text))
		checkSorted(t, l)
		checkRender(t, text, l, wantedRender([]byte(text), l))
		checkRender(t, text, Sort(l), wantedRender([]byte(text), wantedSort(l)))
	}
}

func TestTextOfManyCodes(t *testing.T) {
	for code := -300; code <= 300; code++ {
		if got := Text(code); got != wantedText(code) {
			t.Errorf("P1401: Text of %d: %q, not %q", code, got, wantedText(code))
		}
		if got := Render(nil, []api.Diag{of(code, 0, 0)}); got != "1:1 1:1 "+wantedText(code)+"\n" {
			t.Errorf("P1401: Render of code %d: %q", code, got)
		}
	}
}

// Each way from place to place of every short text of breaks, whole and broken signs, a place on either side too.
func TestEveryShortText(t *testing.T) {
	texts := []string{""}
	for range 5 {
		var longer []string
		for _, text := range texts {
			var l []api.Diag
			for from := -1; from <= len(text)+1; from++ {
				for to := -1; to <= len(text)+1; to++ {
					l = append(l, of(from+to, from, to))
				}
			}
			checkRender(t, text, l, wantedRender([]byte(text), l))
			for _, piece := range []string{"\r", "\n", "a", "\xc3", "\xa9"} {
				longer = append(longer, text+piece)
			}
		}
		texts = longer
	}
}

// T2: what parse tells stands as Sort has it, and a line tells of each.
func TestWhatIsToldOfTexts(t *testing.T) {
	d := die(2)
	told := 0
	for range 4000 {
		text := d.wildText()
		_, _, l := parse.Tree([]byte(text), 1+d.of(3))
		told += len(l)
		checkSort(t, l, l)
		turned := slices.Clone(l)
		slices.Reverse(turned)
		checkSort(t, append(turned, l...), l)
		got := Render([]byte(text), l)
		if strings.Count(got, "\n") != len(l) || strings.Contains(got, "what") || got != wantedRender([]byte(text), l) {
			t.Fatalf("T2: %q: %q of %v", text, got, l)
		}
	}
	if told < 8000 {
		t.Errorf("only %d told", told)
	}
}
