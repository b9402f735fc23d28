package resolve

import (
	"unicode/utf8"
)

func isFloat(s string) bool {
	switch s {
	case ".nan", ".NaN", ".NAN":
		return true
	}
	rest, _ := unsigned(s)
	switch rest {
	case ".inf", ".Inf", ".INF":
		return true
	}
	return isDecimal(rest)
}

// isDecimal tells whether s is a float's digits, with a point and an exponent or without. A label stands for what has been gone past.
func isDecimal(s string) bool {
	r, s := first(s)
	if r == '.' {
		goto point
	}
	if !isDigit(r) {
		return false
	}
digits: // one at least
	if r, s = first(s); isDigit(r) {
		goto digits
	}
	if r == '.' {
		goto fraction
	}
	goto mantissa
point: // without a digit ahead of it: one must stand behind it
	if r, s = first(s); !isDigit(r) {
		return false
	}
fraction: // a point and a digit at least, on whichever side of it
	if r, s = first(s); isDigit(r) {
		goto fraction
	}
mantissa: // all ahead of an exponent, and r
	if r != 'e' && r != 'E' {
		return r == end
	}
	if r, s = first(s); r == '+' || r == '-' {
		r, s = first(s)
	}
	if !isDigit(r) {
		return false
	}
exponent: // with a digit at least
	if r, s = first(s); isDigit(r) {
		goto exponent
	}
	return r == end
}

// end is what first finds at a text's end: no text has such a rune.
const end rune = -1

// first is the rune that s begins with, and what stands behind it.
func first(s string) (r rune, rest string) {
	if s == "" {
		return end, ""
	}
	r, size := utf8.DecodeRuneInString(s)
	return r, s[size:]
}
