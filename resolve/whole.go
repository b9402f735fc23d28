package resolve

import (
	"math"
	"strings"
)

// unsigned is s without the sign that it may begin with, and whether that is a -.
func unsigned(s string) (rest string, negative bool) {
	if rest, is := strings.CutPrefix(s, "-"); is {
		return rest, true
	}
	return strings.TrimPrefix(s, "+"), false
}

// number is what digits say behind their sign; there is none if it isn't within 64 bits.
func number(digits string, base uint64, negative bool) (int, bool) {
	if !negative {
		n, is := whole(digits, base, math.MaxInt64)
		return int(n), is
	}
	// The least number is its own opposite: the wrap-round leaves it as it is.
	n, is := whole(digits, base, 1<<63)
	return -int(n), is
}

// whole is the number that one or more digits of that base say; there is none if it is more than most.
func whole(digits string, base, most uint64) (n uint64, is bool) {
	for _, r := range digits {
		d, is := worth(r)
		// Not n*base+d > most: that could wrap round.
		if !is || d >= base || n > (most-d)/base {
			return 0, false
		}
		n = n*base + d
	}
	return n, digits != ""
}

// worth is the number that a digit of sixteen stands for.
func worth(r rune) (n uint64, is bool) {
	switch {
	case isDigit(r):
		return uint64(r - '0'), true
	case 'a' <= r && r <= 'f':
		return uint64(r-'a') + 10, true
	case 'A' <= r && r <= 'F':
		return uint64(r-'A') + 10, true
	}
	return 0, false
}

func isDigit(r rune) bool { return '0' <= r && r <= '9' }
