package diag

import (
	"math"
	"slices"
	"testing"

	"corrector/api"
)

func of(code, from, to int) api.Diag {
	return api.Diag{Code: code, From: from, To: to}
}

func checkSort(t *testing.T, l, want []api.Diag) {
	t.Helper()
	if got := Sort(l); !slices.Equal(got, want) {
		t.Fatalf("P1401: Sort of %v: %v, not %v", l, got, want)
	}
}

func checkRender(t *testing.T, b string, l []api.Diag, want string) {
	t.Helper()
	if got := Render([]byte(b), l); got != want {
		t.Fatalf("P1401: Render of %q, %v: %q, not %q", b, l, got, want)
	}
}

func TestSort(t *testing.T) {
	for _, x := range []struct{ l, want []api.Diag }{
		{nil, nil},
		{[]api.Diag{}, nil},
		{[]api.Diag{of(0, 0, 0)}, []api.Diag{of(0, 0, 0)}},
		// by From, whatever the others are
		{[]api.Diag{of(1, 3, 4), of(2, 1, 9)}, []api.Diag{of(2, 1, 9), of(1, 3, 4)}},
		{[]api.Diag{of(9, 1, 9), of(1, 3, 4)}, []api.Diag{of(9, 1, 9), of(1, 3, 4)}},
		// then by To, whatever the code is
		{[]api.Diag{of(1, 2, 5), of(8, 2, 3)}, []api.Diag{of(8, 2, 3), of(1, 2, 5)}},
		// then by Code
		{[]api.Diag{of(8, 2, 3), of(4, 2, 3), of(11, 2, 3)}, []api.Diag{of(4, 2, 3), of(8, 2, 3), of(11, 2, 3)}},
		// each once, however often it is there, and whatever stands between
		{[]api.Diag{of(1, 0, 1), of(1, 0, 1), of(1, 0, 1)}, []api.Diag{of(1, 0, 1)}},
		{[]api.Diag{of(1, 0, 1), of(2, 0, 1), of(1, 0, 1), of(1, 0, 2), of(2, 0, 1)}, []api.Diag{of(1, 0, 1), of(2, 0, 1), of(1, 0, 2)}},
		{[]api.Diag{of(1, 5, 6), of(1, 0, 1), of(1, 5, 6), of(1, 0, 1)}, []api.Diag{of(1, 0, 1), of(1, 5, 6)}},
		// two that differ in one number alone are two
		{[]api.Diag{of(2, 1, 1), of(1, 1, 2), of(1, 2, 1), of(1, 1, 1)}, []api.Diag{of(1, 1, 1), of(2, 1, 1), of(1, 1, 2), of(1, 2, 1)}},
		// any: codes and places that there are not, ends ahead of beginnings, numbers from end to end
		{[]api.Diag{of(0, 0, 0), of(-1, 0, 0), of(99, 0, 0), of(0, 0, -1), of(0, -1, 0)}, []api.Diag{of(0, -1, 0), of(0, 0, -1), of(-1, 0, 0), of(0, 0, 0), of(99, 0, 0)}},
		{[]api.Diag{of(1, 9, 2), of(1, 2, 9), of(1, 9, 1)}, []api.Diag{of(1, 2, 9), of(1, 9, 1), of(1, 9, 2)}},
		{[]api.Diag{of(0, math.MaxInt, 0), of(0, 0, 0), of(0, math.MinInt, 0)}, []api.Diag{of(0, math.MinInt, 0), of(0, 0, 0), of(0, math.MaxInt, 0)}},
		{[]api.Diag{of(0, 0, math.MaxInt), of(0, 0, -2), of(0, 0, math.MinInt)}, []api.Diag{of(0, 0, math.MinInt), of(0, 0, -2), of(0, 0, math.MaxInt)}},
		{[]api.Diag{of(math.MaxInt, 0, 0), of(-2, 0, 0), of(math.MinInt, 0, 0)}, []api.Diag{of(math.MinInt, 0, 0), of(-2, 0, 0), of(math.MaxInt, 0, 0)}},
	} {
		checkSort(t, x.l, x.want)
		slices.Reverse(x.l)
		checkSort(t, x.l, x.want)
	}
}

func TestText(t *testing.T) {
	for code, want := range map[int]string{
		api.DBad: "byte", api.DTab: "tab", api.DQuote: "quote", api.DEscape: "escape", api.DMixed: "mixed", api.DIndent: "indent",
		api.DSecond: "second", api.DStray: "stray", api.DOpen: "open", api.DDeep: "deep", api.DAlias: "alias",
		0:  "what", // the chapter's example
		-1: "what", -8: "what", 12: "what", 13: "what", 99: "what", 256 + 1: "what", 1<<32 + 1: "what", math.MaxInt: "what", math.MinInt: "what", math.MinInt + 1: "what",
	} {
		if got := Text(code); got != want {
			t.Errorf("P1401: Text of %d: %q, not %q", code, got, want)
		}
	}
}

func TestTextByNumber(t *testing.T) {
	for i, want := range []string{"byte", "tab", "quote", "escape", "mixed", "indent", "second", "stray", "open", "deep", "alias"} {
		if got := Text(i + 1); got != want {
			t.Errorf("P1401: Text of %d: %q, not %q", i+1, got, want)
		}
	}
}

func TestRender(t *testing.T) {
	for _, x := range []struct {
		b    string
		l    []api.Diag
		want string
	}{
		{"", nil, ""},
		{"a: b", nil, ""},
		{"a: b", []api.Diag{of(api.DStray, 1, 3)}, "1:2 1:4 stray\n"},
		{"a\nb: c\n", []api.Diag{of(api.DBad, 0, 1), of(api.DMixed, 2, 6)}, "1:1 1:2 byte\n2:1 2:5 mixed\n"},
		// from its beginning to its end, which are places, too
		{"", []api.Diag{of(api.DTab, 0, 0)}, "1:1 1:1 tab\n"},
		{"ab\n", []api.Diag{of(api.DOpen, 0, 3), of(api.DDeep, 3, 3)}, "1:1 2:1 open\n2:1 2:1 deep\n"},
		// lines end by each break; columns are in signs, of broken ones in bytes
		{"a\rb\r\nc", []api.Diag{of(api.DTab, 2, 3), of(api.DTab, 4, 5), of(api.DTab, 5, 6)}, "2:1 2:2 tab\n2:3 3:1 tab\n3:1 3:2 tab\n"},
		{"\xc3\xa9b\xff\xffc", []api.Diag{of(api.DQuote, 0, 2), of(api.DQuote, 1, 3), of(api.DQuote, 4, 6)}, "1:1 1:2 quote\n1:2 1:3 quote\n1:4 1:6 quote\n"},
		// as they come: in no order, twice, turned about, and whatever their codes are
		{"abc", []api.Diag{of(2, 2, 3), of(1, 0, 1), of(2, 2, 3), of(1, 0, 1)}, "1:3 1:4 tab\n1:1 1:2 byte\n1:3 1:4 tab\n1:1 1:2 byte\n"},
		{"a\nb", []api.Diag{of(api.DAlias, 3, 0)}, "2:2 1:1 alias\n"},
		{"ab", []api.Diag{of(0, 0, 1), of(12, 1, 2), of(-3, 2, 2)}, "1:1 1:2 what\n1:2 1:3 what\n1:3 1:3 what\n"},
		// lines and columns of several digits
		{"\n\n\n\n\n\n\n\n\n\n\n          é x", []api.Diag{of(api.DSecond, 21, 23), of(api.DIndent, 9, 24)}, "12:11 12:12 second\n10:1 12:13 indent\n"},
	} {
		checkRender(t, x.b, x.l, x.want)
	}
}

// Both ends must be places; what of it is left is told as if the others weren't there.
func TestRenderOfNoPlaces(t *testing.T) {
	for _, b := range []string{"", "a", "a\r\nb", "\xff\n"} {
		for _, at := range []int{-1, -2, math.MinInt, len(b) + 1, len(b) + 2, math.MaxInt, 1 << 32} {
			checkRender(t, b, []api.Diag{of(api.DBad, at, 0)}, "")
			checkRender(t, b, []api.Diag{of(api.DBad, 0, at)}, "")
			checkRender(t, b, []api.Diag{of(api.DBad, at, at)}, "")
			checkRender(t, b, []api.Diag{of(api.DBad, at, len(b)), of(api.DTab, 0, 0), of(api.DBad, 0, at), of(api.DQuote, 0, 0), of(api.DBad, at, at)}, "1:1 1:1 tab\n1:1 1:1 quote\n")
		}
	}
	checkRender(t, "ab", []api.Diag{of(1, -1, 3), of(2, 0, 3), of(3, 0, 2), of(4, -1, 2)}, "1:1 1:3 quote\n")
}
