package resolve

import (
	"math"
	"testing"

	"corrector/api"
)

// checkKind holds Kind against a kind, and Int against it: an int is one of that kind alone (P1502).
func checkKind(t *testing.T, s string, want int) {
	t.Helper()
	if got := Kind(s); got != want {
		t.Errorf("P1501: Kind of %q: %d, not %d", s, got, want)
	}
	n, is := Int(s)
	if is != (want == api.VInt) {
		t.Errorf("P1502: Int of %q: %d, %v; its kind is %d", s, n, is, want)
	}
	if !is && n != 0 {
		t.Errorf("P4: Int of %q: %d beside a false", s, n)
	}
}

func checkInt(t *testing.T, s string, want int) {
	t.Helper()
	if got, is := Int(s); got != want || !is {
		t.Errorf("P1501: Int of %q: %d, %v, not %d", s, got, is, want)
	}
	checkKind(t, s, api.VInt)
}

func TestKindOfWords(t *testing.T) {
	for kind, words := range map[int][]string{
		api.VNull:  {"", "~", "null", "Null", "NULL"},
		api.VBool:  {"true", "True", "TRUE", "false", "False", "FALSE"},
		api.VFloat: {".inf", ".Inf", ".INF", "+.inf", "+.Inf", "+.INF", "-.inf", "-.Inf", "-.INF", ".nan", ".NaN", ".NAN"},
		api.VText: {
			"nULL", "nuLL", "NUll", "nil", "none", "null ", " null", "nulll", "ull", "~~", "~ ", " ~", "+~", "-null", "null\n", "null\x00",
			"tRUE", "TRue", "truE", "yes", "no", "on", "off", "y", "n", "t", "true ", " true", "truetrue", "-true", "!true", "fALSE", "falsE", "fals\u017fe", "fal\u017fe",
			".INf", ".iNF", ".inF", ".infx", ".in", ".infinity", "inf", "Inf", "+inf", "infinity", "++.inf", "+-.inf", ".+inf", "-.inf ", ".\u0131nf", "..inf", "0.inf", ".inf0",
			".Nan", ".nAN", ".NAn", ".nanx", ".na", "nan", "NaN", "+.nan", "-.nan", "+.NaN", "-.NaN", "+.NAN", "-.NAN", ".nan ", "0.nan",
			"a", " ", "\t", "\n", "a b", "'", "\"\"", "''", "'1'", "\"1\"", "é", "\xff", "\x00", "\ufffd", "-", "---", "...", "#", "[]", "{}", "!!int", "*a", "&a",
		},
	} {
		for _, s := range words {
			checkKind(t, s, kind)
		}
	}
}

func TestInt(t *testing.T) {
	for s, want := range map[string]int{
		"0": 0, "+0": 0, "-0": 0, "5": 5, "+5": 5, "-5": -5, "9": 9, "10": 10, "-10": -10, "1234567890": 1234567890,
		// zeros ahead change nothing, and are no sign of a base
		"00": 0, "007": 7, "010": 10, "-008": -8, "+09": 9, "00000000000000000000000000000000000000012": 12, "-00000000000000000000000000000000000000012": -12,
		"0o0": 0, "0o7": 7, "0o10": 8, "0o17": 15, "0o00000000000000000000000000000000017": 15, "0o12345670": 2739128,
		"0x0": 0, "0x9": 9, "0xa": 10, "0xf": 15, "0xA": 10, "0xF": 15, "0x10": 16, "0x1F": 31, "0xaBcDeF": 0xabcdef, "0x00000000000000000000000000000000001f": 31, "0x1e5": 0x1e5, "0xe": 14, "0x0e0": 0xe0,
		// the greatest and the least one
		"9223372036854775807": math.MaxInt64, "+9223372036854775807": math.MaxInt64, "9223372036854775806": math.MaxInt64 - 1, "0009223372036854775807": math.MaxInt64,
		"-9223372036854775808": math.MinInt64, "-9223372036854775807": math.MinInt64 + 1, "-0009223372036854775808": math.MinInt64,
		"0o777777777777777777777": math.MaxInt64, "0o777777777777777777776": math.MaxInt64 - 1, "0o000777777777777777777777": math.MaxInt64,
		"0x7fffffffffffffff": math.MaxInt64, "0x7FFFFFFFFFFFFFFE": math.MaxInt64 - 1, "0x0007fffffffffffffff": math.MaxInt64,
	} {
		checkInt(t, s, want)
	}
}

func TestNoInt(t *testing.T) {
	for kind, l := range map[int][]string{
		// too great a number of digits alone is a float's
		api.VFloat: {
			"9223372036854775808", "+9223372036854775808", "9223372036854775809", "9223372036854775810", "-9223372036854775809", "-9223372036854775810", "10000000000000000000", "-10000000000000000000",
			"18446744073709551615", "18446744073709551616", "18446744073709551617", "-18446744073709551616", "36893488147419103233", "123456789012345678901234567890", "0009223372036854775808",
		},
		api.VText: {
			"0o1000000000000000000000", "0o1777777777777777777777", "0o2000000000000000000001", "0x8000000000000000", "0xffffffffffffffff", "0x10000000000000000", "0x10000000000000001",
			"+", "-", "--1", "++1", "+-1", "-+1", "1-", "1+", "- 1", "+ 1", " 1", "1 ", "1\n", "1\x00", "\t1", "1_0", "1,0", "1 0", "1'0", "a", "1a", "f", "e", "1x", "12o",
			"0o", "0x", "0o8", "0o9", "0o18", "0oa", "0o-1", "0o+1", "0o 1", "0o1 ", "0o1.0", "0o1e1", "0o0x1", "0o0o1", "o1", "0O7", "00o7", "+0o7", "-0o7", "0o", "1o7", "0o_7",
			"0xg", "0xG", "0x1g", "0x@", "0x`", "0x/", "0x:", "0x-1", "0x+1", "0x 1", "0x1 ", "0x1.0", "0x1p1", "0x0x1", "x1", "0X1", "00x1", "+0x1", "-0x1", "1x1", "0x_1", "#1f", "1fh",
			"0b1", "0b", "/", ":", "1:2", "1/2", "\u0661", "1\u0661", "0x\u0661", "\uff11", "\xb2", "1\xff", "\xff1", "0x\xff", "0o\xff", "1\ufffd", "\u0130", "\U0001d7d9",
		},
	} {
		for _, s := range l {
			checkKind(t, s, kind)
		}
	}
}

func TestFloat(t *testing.T) {
	for kind, l := range map[int][]string{
		api.VFloat: {
			"1.", ".5", "1.5", "0.0", "00.1", "0.", ".0", "+1.", "-1.", "+.5", "-.5", "+1.5", "-1.5", "12.34", "123456.654321",
			"1e5", "1E5", "1e+5", "1e-5", "1E+5", "1E-5", "0e0", "1e05", "1e123456789012345678901234567890", "-1e5", "+1e5",
			"1.e1", "1.E-1", ".5e1", ".5E+1", "1.5e3", "-1.5e3", "+.5E-10", "12.34e56", "-0.0e-0",
		},
		api.VText: {
			".", "+.", "-.", "..", "...", "1..", "..1", "1..2", "1.5.2", ".1.2", "1.2.", ". 5", "1. 5", "1 .5", "1,5", "1.5 ", " 1.5", "1.5\n", "1.5\x00", "1.5\xff", "1.\xff", "\xff.5", "1.\ufffd5",
			"e", "E", "e5", "E5", ".e5", "+e5", "-e5", "+.e5", "1e", "1E", "1.e", ".5e", "1e+", "1e-", "1.5E-", "1e++5", "1e+-5", "1ee5", "1eE5", "1e5e5", "1e5.", "1e5.5", "1e.5", "1e 5", "1 e5", "1e5 ", "1e5x", "1e5\x00", "1e5\xff", "1e\xff",
			"--1.5", "++1.5", "+-1.5", "1.-5", "1.+5", "1.5-", "1.5+", "1.5f", "1.5d", "1d5", "1p5", "0o1.5", "0x1.5", "0x1p-2", "1_0.5", "1.5_0", "\u0661.5", "1.\u0665", "1e\u0665", "1.5e\uff15", "1\u066b5", "1\uff0e5", "1\u212f5", "a.5", "1.a", "1.5a",
		},
	} {
		for _, s := range l {
			checkKind(t, s, kind)
		}
	}
}

func TestTagged(t *testing.T) {
	texts := map[int][]string{
		api.VNull:  {"", "~", "null", "Null", "NULL"},
		api.VBool:  {"true", "False", "FALSE"},
		api.VInt:   {"0", "-5", "0x1F", "0o17", "9223372036854775807"},
		api.VFloat: {"1.", "-1.5e3", ".nan", "-.inf", "9223372036854775808"},
		api.VText:  {"a", "5 ", "tRUE", "+.nan", "0o8", "\xff", "!!int"},
	}
	// What each tag makes of a VNull, a VBool, a VInt, a VFloat, a VText, plain or not.
	const n, b, i, f, x = api.VNull, api.VBool, api.VInt, api.VFloat, api.VText
	for tag, want := range map[string][5]int{
		"!!int": {x, x, i, x, x}, "!!bool": {x, b, x, x, x}, "!!null": {n, x, x, x, x}, "!!float": {x, x, f, f, x},
		"!!str": {x, x, x, x, x}, "!": {x, x, x, x, x}, "!!": {x, x, x, x, x}, "!x": {x, x, x, x, x}, "!!seq": {x, x, x, x, x}, "!!map": {x, x, x, x, x},
		// much as those above, and none of them
		"!int": {x, x, x, x, x}, "int": {x, x, x, x, x}, "!!Int": {x, x, x, x, x}, "!!INT": {x, x, x, x, x}, "!!ints": {x, x, x, x, x}, "!!in": {x, x, x, x, x}, "!!!int": {x, x, x, x, x}, " !!int": {x, x, x, x, x}, "!!int ": {x, x, x, x, x},
		"!bool": {x, x, x, x, x}, "!!Bool": {x, x, x, x, x}, "!!boolean": {x, x, x, x, x}, "!null": {x, x, x, x, x}, "!!Null": {x, x, x, x, x}, "!!nil": {x, x, x, x, x}, "!float": {x, x, x, x, x}, "!!Float": {x, x, x, x, x}, "!!floats": {x, x, x, x, x},
		" ": {x, x, x, x, x}, "\x00": {x, x, x, x, x}, "\xff": {x, x, x, x, x}, "!!int\x00": {x, x, x, x, x}, "5": {x, x, x, x, x}, "~": {x, x, x, x, x},
	} {
		for kind, l := range texts {
			for _, s := range l {
				checkTagged(t, tag, s, true, want[kind-1])
				checkTagged(t, tag, s, false, want[kind-1])
			}
		}
	}
	for kind, l := range texts {
		for _, s := range l {
			checkTagged(t, "", s, true, kind)
			checkTagged(t, "", s, false, api.VText)
		}
	}
}

func checkTagged(t *testing.T, tag, s string, plain bool, want int) {
	t.Helper()
	if got := Tagged(tag, s, plain); got != want {
		t.Errorf("P1501: Tagged of %q, %q, %v: %d, not %d", tag, s, plain, got, want)
	}
}
