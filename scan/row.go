package scan

import (
	"strings"
	"unicode/utf8"

	"corrector/api"
	"corrector/chars"
	"corrector/runes"
)

// markSize is how many bytes a TStart, a TEnd has.
const markSize = 3

// rowSize is how many bytes stand ahead of a text's first break, or end.
func rowSize(text string) int {
	if n := strings.IndexAny(text, "\r\n"); n >= 0 {
		return n
	}
	return len(text)
}

// breakSize is how many bytes the break has with which a text begins; 0: it begins with none.
func breakSize(text string) int {
	switch {
	case strings.HasPrefix(text, "\r\n"):
		return 2
	case strings.HasPrefix(text, "\r"), strings.HasPrefix(text, "\n"):
		return 1
	}
	return 0
}

// parted tells whether what stands ahead of the rest of a row ends there: a blank follows, or nothing.
func parted(rest string) bool {
	return rest == "" || chars.Blank(rest[0])
}

// run is how many bytes of a class a row begins with. (No class has any but those of signs of one byte.)
func run(row string, class func(c byte) bool) int {
	for i := range row {
		if !class(row[i]) {
			return i
		}
	}
	return len(row)
}

func space(c byte) bool {
	return c == ' '
}

// inTag tells whether c may stand in a tag behind its first sign.
func inTag(c byte) bool {
	return c == '!' || chars.Name(c)
}

// bad tells whether a row begins with a byte that is no sign.
func bad(row string) bool {
	r, _ := runes.Next([]byte(row[:min(len(row), utf8.UTFMax)]))
	return r < 0
}

// mark is the kind of the mark with which a row begins, or none.
func mark(row string) int {
	if len(row) < markSize || !parted(row[markSize:]) {
		return none
	}
	switch row[:markSize] {
	case "---":
		return api.TStart
	case "...":
		return api.TEnd
	}
	return none
}

// named is the anchor, alias or tag with which a row begins; kind none: there is none.
func named(row string) (kind, size int) {
	switch row[0] {
	case '&':
		kind = api.TAnchor
	case '*':
		kind = api.TAlias
	case '!':
		return api.TTag, 1 + run(row[1:], inTag)
	default:
		return none, 0
	}
	size = run(row[1:], chars.Name)
	// Without a name the sign is one of a TPlain.
	if size == 0 {
		return none, 0
	}
	return kind, 1 + size
}

// quoted is the quoted text with which a row begins; kind none: there is none.
func quoted(row string) (kind, size int) {
	switch row[0] {
	case '\'':
		return api.TSingle, singleSize(row)
	case '"':
		return api.TDouble, doubleSize(row)
	}
	return none, 0
}

func singleSize(row string) int {
	for i := 1; i < len(row); i++ {
		switch {
		case strings.HasPrefix(row[i:], "''"):
			i++
		case row[i] == '\'':
			return i + 1
		}
	}
	return len(row)
}

func doubleSize(row string) int {
	for i := 1; i < len(row); i++ {
		switch row[i] {
		case '\\':
			i++
		case '"':
			return i + 1
		}
	}
	return len(row)
}

// headSize is how many bytes a THead has with which a row begins; 0: there is none, as more than a comment stands behind.
func headSize(row string) int {
	if row[0] != '|' && row[0] != '>' {
		return 0
	}
	size := 1
	if len(row) > 1 && (row[1] == '+' || row[1] == '-') {
		size = 2
	}
	rest := row[size:]
	behind := rest[run(rest, chars.Blank):]
	// A comment needs a blank ahead.
	if behind == "" || parted(rest) && behind[0] == '#' {
		return size
	}
	return 0
}
