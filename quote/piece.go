package quote

import (
	"strings"

	"corrector/chars"
)

// What stands in quotes falls into pieces of three types. (A piece is handed on as any.)
type (
	// said is some bytes of the token, and what they say.
	said struct {
		text string
		size int
	}
	// fault is a backslash that begins no escape.
	fault struct{}
	// closing is the quote that ends the text.
	closing struct{}
)

// read puts together what the pieces behind the first byte of s say; next is the first piece of what is left, which is not empty.
func read(s string, next func(rest string) any) (text string, bad []int, ended bool) {
	var out []byte
	for at := 1; at < len(s); {
		piece := next(s[at:])
		if _, ok := piece.(closing); ok {
			return string(out), bad, true
		}
		if _, ok := piece.(fault); ok {
			bad = append(bad, at)
			out = append(out, '\\')
			at++
			continue
		}
		// It can't fail: there is no other type of piece.
		part := piece.(said)
		out = append(out, part.text...)
		at += part.size
	}
	return string(out), bad, false
}

// nextSingle is the first piece of what is left of a TSingle.
func nextSingle(rest string) any {
	if strings.HasPrefix(rest, "''") {
		return said{text: "'", size: 2}
	}
	if rest[0] == '\'' {
		return closing{}
	}
	return itself(rest, "'")
}

// nextDouble is the first piece of what is left of a TDouble.
func nextDouble(rest string) any {
	switch rest[0] {
	case '"':
		return closing{}
	case '\\':
		if text, size := chars.Escape(rest); size > 0 {
			return said{text: text, size: size}
		}
		return fault{}
	}
	return itself(rest, `"\`)
}

// itself is the piece up to the first sign that is one of ends, or to the end: what it says is its bytes, be they signs or not.
func itself(rest, ends string) said {
	for i, r := range rest {
		if strings.ContainsRune(ends, r) {
			return said{text: rest[:i], size: i}
		}
	}
	return said{text: rest, size: len(rest)}
}
