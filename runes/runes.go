// Package runes: bytes as signs. See doc/01-runes.md.
package runes

import (
	"unicode/utf8"
)

// none is what Next says where no sign begins.
const none rune = -1

// Next is the first sign, and how many bytes it has; -1: they are none.
func Next(b []byte) (r rune, n int) {
	r, n = utf8.DecodeRune(b)
	// The library answers FFFD where it finds no sign; the sign FFFD itself has three bytes.
	if r == utf8.RuneError && n < 2 {
		return none, n
	}
	return r, n
}

// Bad are the places of bytes that are no text.
func Bad(b []byte) []int {
	var places []int
	for at, r := range string(b) {
		// A range says FFFD both of that sign and of a byte that is none: Next tells them apart.
		if r == utf8.RuneError {
			r, _ = Next(b[at:])
		}
		if r == none {
			places = append(places, at)
		}
	}
	return places
}

// Count is in how many steps of Next all bytes are gone through: a range takes the same ones.
func Count(b []byte) int {
	n := 0
	for range string(b) {
		n++
	}
	return n
}
