package resolve

import (
	"math/big"
	"regexp"
	"slices"
	"strconv"
	"strings"
	"testing"
	"time"

	"corrector/api"
)

// P1501's forms by its words, one expression each.
var (
	nulls   = regexp.MustCompile(`\A(|~|null|Null|NULL)\z`)
	bools   = regexp.MustCompile(`\A(true|True|TRUE|false|False|FALSE)\z`)
	tens    = regexp.MustCompile(`\A[+-]?[0-9]+\z`)
	eights  = regexp.MustCompile(`\A0o[0-7]+\z`)
	hexes   = regexp.MustCompile(`\A0x[0-9a-fA-F]+\z`)
	floats  = regexp.MustCompile(`\A[+-]?([0-9]+\.?[0-9]*|\.[0-9]+)([eE][+-]?[0-9]+)?\z`)
	endless = regexp.MustCompile(`\A[+-]?(\.inf|\.Inf|\.INF)\z`)
	nans    = regexp.MustCompile(`\A(\.nan|\.NaN|\.NAN)\z`)
)

// wantedInt is P1501's Int by its words.
func wantedInt(s string) (int, bool) {
	n, base := s, 0
	switch {
	case tens.MatchString(s):
		base = 10
	case eights.MatchString(s):
		n, base = s[2:], 8
	case hexes.MatchString(s):
		n, base = s[2:], 16
	default:
		return 0, false
	}
	great, is := new(big.Int).SetString(n, base)
	if !is || !great.IsInt64() {
		return 0, false
	}
	return int(great.Int64()), true
}

// wantedKinds are all kinds that P1501's words give a text.
func wantedKinds(s string) (kinds []int) {
	if nulls.MatchString(s) {
		kinds = append(kinds, api.VNull)
	}
	if bools.MatchString(s) {
		kinds = append(kinds, api.VBool)
	}
	if _, is := wantedInt(s); is {
		kinds = append(kinds, api.VInt)
	} else if floats.MatchString(s) || endless.MatchString(s) || nans.MatchString(s) {
		kinds = append(kinds, api.VFloat)
	}
	return kinds
}

func wantedTagged(tag, s string, plain bool, kind int) int {
	number := kind == api.VInt || kind == api.VFloat
	switch {
	case tag == "" && plain:
		return kind
	case tag == "!!int" && kind == api.VInt:
		return api.VInt
	case tag == "!!bool" && kind == api.VBool:
		return api.VBool
	case tag == "!!null" && kind == api.VNull:
		return api.VNull
	case tag == "!!float" && number:
		return api.VFloat
	}
	return api.VText
}

// checkWords holds all three against the words, and answers the kind.
func checkWords(t *testing.T, s string) int {
	t.Helper()
	kinds := append(wantedKinds(s), api.VText)
	if len(kinds) > 2 {
		t.Fatalf("P1502: %q is of %v", s, kinds)
	}
	if got := Kind(s); got != kinds[0] {
		t.Fatalf("P1501: Kind of %q: %d, not %d", s, got, kinds[0])
	}
	want, must := wantedInt(s)
	if got, is := Int(s); got != want || is != must {
		t.Fatalf("P1501: Int of %q: %d, %v, not %d, %v", s, got, is, want, must)
	}
	for _, tag := range []string{"", "!!int", "!!bool", "!!null", "!!float", "!!str"} {
		for _, plain := range []bool{true, false} {
			if got, want := Tagged(tag, s, plain), wantedTagged(tag, s, plain, kinds[0]); got != want {
				t.Fatalf("P1501: Tagged of %q, %q, %v: %d, not %d", tag, s, plain, got, want)
			}
		}
	}
	return kinds[0]
}

// checkEvery goes through each text of up to so many of the signs, and holds how many of each kind there must be at least.
func checkEvery(t *testing.T, signs []string, most int, least map[int]int) {
	t.Helper()
	counts := map[int]int{}
	texts := []string{""}
	for size := 0; ; size++ {
		for _, s := range texts {
			counts[checkWords(t, s)]++
		}
		if size == most {
			break
		}
		var longer []string
		for _, s := range texts {
			for _, sign := range signs {
				longer = append(longer, s+sign)
			}
		}
		texts = longer
	}
	for kind, n := range least {
		if counts[kind] < n {
			t.Errorf("only %d of kind %d", counts[kind], kind)
		}
	}
}

func TestEveryShortNumber(t *testing.T) {
	checkEvery(t, []string{"+", "-", ".", "0", "8", "e", "E", "x"}, 5, map[int]int{api.VInt: 100, api.VFloat: 500, api.VText: 10000})
	checkEvery(t, []string{"0", "7", "o", "x", "F", "a"}, 5, map[int]int{api.VInt: 160, api.VText: 4000})
	checkEvery(t, []string{"1", ".", "e", "-"}, 8, map[int]int{api.VInt: 15, api.VFloat: 200, api.VText: 50000})
}

func TestEveryTwoBytes(t *testing.T) {
	for a := range 256 {
		checkWords(t, string([]byte{byte(a)}))
		for b := range 256 {
			checkWords(t, string([]byte{byte(a), byte(b)}))
			for _, head := range []string{"0x", "0o", "-", "1.", "1e"} {
				checkWords(t, head+string([]byte{byte(a), byte(b)}))
			}
		}
	}
}

// some are texts of all kinds, among them those that stand for themselves.
func some() []string {
	return strings.Split(" ~ null Null NULL true True TRUE false False FALSE .inf .Inf .INF -.inf +.Inf .nan .NaN .NAN 0 -7 +12 0o17 0x1F 1.5 -.5 5. 1e5 -1.5E+10 9223372036854775807 -9223372036854775808 0x7fffffffffffffff 0o777777777777777777777 text", " ")
}

// Each text that is one byte away from one of some: another byte, one more, one less.
func TestOneByteAway(t *testing.T) {
	for _, s := range some() {
		checkWords(t, s)
		for at := range len(s) + 1 {
			for c := range 256 {
				checkWords(t, s[:at]+string([]byte{byte(c)})+s[at:])
				if at < len(s) {
					checkWords(t, s[:at]+string([]byte{byte(c)})+s[at+1:])
				}
			}
			if at < len(s) {
				checkWords(t, s[:at]+s[at+1:])
			}
		}
	}
}

// Each letter of a word in either case: only three ways of each are the word.
func TestEveryCase(t *testing.T) {
	for _, x := range []struct {
		word       string
		kind, ways int
	}{{"null", api.VNull, 3}, {"true", api.VBool, 3}, {"false", api.VBool, 3}, {".inf", api.VFloat, 3}, {"-.inf", api.VFloat, 3}, {"+.inf", api.VFloat, 3}, {".nan", api.VFloat, 3}, {"-.nan", api.VFloat, 0}, {"+.nan", api.VFloat, 0}} {
		in := map[string]bool{}
		for upper := range 1 << len(x.word) {
			s := []byte(x.word)
			for i := range s {
				if upper>>i&1 == 1 {
					s[i] = strings.ToUpper(x.word)[i]
				}
			}
			if checkWords(t, string(s)) == x.kind {
				in[string(s)] = true
			}
		}
		if len(in) != x.ways {
			t.Errorf("P1501: %s: %v", x.word, in)
		}
	}
}

// Numbers about the bounds of 64 bits, and about what wraps round to small ones.
func TestAboutTheBounds(t *testing.T) {
	for power := range 200 {
		for by := int64(-20); by <= 20; by++ {
			n := new(big.Int).Lsh(big.NewInt(1), uint(power))
			n.Add(n, big.NewInt(by))
			for _, zeros := range []string{"", "0", strings.Repeat("0", 70)} {
				for _, sign := range []string{"", "+", "-"} {
					checkWords(t, sign+zeros+n.Text(10))
				}
				checkWords(t, "0o"+zeros+n.Text(8))
				checkWords(t, "0x"+zeros+n.Text(16))
				checkWords(t, "0x"+zeros+strings.ToUpper(n.Text(16)))
			}
		}
	}
}

// A number is read as it was written.
func TestWrittenNumbers(t *testing.T) {
	d := die(1501)
	for range 20000 {
		n := d.wide() >> d.of(64)
		checkInt(t, strconv.Itoa(n), n)
		if n < 0 {
			continue
		}
		checkInt(t, "+"+strconv.Itoa(n), n)
		checkInt(t, "0o"+strconv.FormatInt(int64(n), 8), n)
		checkInt(t, "0x"+strconv.FormatInt(int64(n), 16), n)
	}
}

// die throws, always the same.
type die uint32

func (d *die) of(n int) int {
	*d = *d*1664525 + 1013904223
	return int(*d>>8) % n
}

// wide is any number.
func (d *die) wide() int {
	n := 0
	for range 4 {
		n = n<<16 ^ d.of(1<<16)
	}
	return n
}

func TestWildTexts(t *testing.T) {
	pieces := append(some(), "+", "-", ".", "e", "E", "0", "0o", "0x", "00", "1", "9", "a", "F", "_", " ", "\n", "\x00", "\xff", "é", "\u0663", "\ufffd")
	d := die(1502)
	counts := map[int]int{}
	for range 60000 {
		s := ""
		for range d.of(6) {
			s += pieces[d.of(len(pieces))]
		}
		counts[checkWords(t, s)]++
	}
	for _, kind := range []int{api.VNull, api.VBool, api.VInt, api.VFloat, api.VText} {
		if counts[kind] < 100 {
			t.Errorf("only %d of kind %d", counts[kind], kind)
		}
	}
}

// P1: of longest texts and longer ones all is answered, in time.
func TestLongestTexts(t *testing.T) {
	began := time.Now()
	for _, size := range []int{api.MaxText, 1 << 22} {
		zeros, nines := strings.Repeat("0", size), strings.Repeat("9", size)
		checkInt(t, zeros, 0)
		checkInt(t, "-"+zeros+"7", -7)
		checkInt(t, "0o"+zeros+"17", 15)
		checkInt(t, "0x"+zeros+"1f", 31)
		checkInt(t, "0x"+zeros+"7fffffffffffffff", 1<<63-1)
		for kind, l := range map[int][]string{
			api.VFloat: {nines, "-" + nines, zeros + "9223372036854775808", zeros + ".", "." + zeros, zeros + "." + nines + "E-" + zeros, "1e" + nines},
			api.VText:  {"0o" + zeros + nines, "0x" + nines, "0o" + strings.Repeat("7", size), zeros + "x", nines + "." + zeros + ".", "." + nines + "e", "1e" + nines + " ", strings.Repeat("+", size), strings.Repeat(".", size), strings.Repeat("\xff", size), strings.Repeat("null", size/4), strings.Repeat(" ", size)},
		} {
			for _, s := range l {
				if got := Kind(s); got != kind {
					t.Errorf("P1501: Kind of %q and on, %d bytes: %d, not %d", s[:10], len(s), got, kind)
				}
				if n, is := Int(s); n != 0 || is {
					t.Errorf("P1501: Int of %q and on, %d bytes: %d, %v", s[:10], len(s), n, is)
				}
			}
		}
		if got := Tagged(nines, nines, true); got != api.VText {
			t.Errorf("P1501: Tagged of a long tag: %d", got)
		}
	}
	if took := time.Since(began); took > 20*time.Second {
		t.Errorf("P1: took %v", took)
	}
}

// P3: the same calls answer the same, whatever was asked between.
func TestSameAnswers(t *testing.T) {
	texts := some()
	ask := func() (answers []int) {
		for _, s := range texts {
			n, _ := Int(s)
			answers = append(answers, Kind(s), n, Tagged("", s, true), Tagged("!!float", s, false))
		}
		return answers
	}
	first := ask()
	for range 3 {
		Kind("-9223372036854775809")
		Int("0x8000000000000000")
		Tagged("!!null", "~", false)
		if got := ask(); !slices.Equal(got, first) {
			t.Fatalf("P3: %v, then %v", first, got)
		}
	}
}
