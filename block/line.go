package block

import (
	"corrector/chars"
)

// ownOfEach are the lines' own, one for each.
func ownOfEach(lines []string) []string {
	owns := make([]string, len(lines))
	for i, line := range lines {
		owns[i] = ownOf(line)
	}
	return owns
}

// ownOf is a line up to ahead of its first break.
func ownOf(line string) string {
	for i, r := range line {
		// A break of two signs begins with one that is a break alone.
		if r == '\r' || r == '\n' {
			return line[:i]
		}
	}
	return line
}

// empty tells whether there are only blanks in what is a line's own.
func empty(own string) bool {
	for i := range own {
		if !chars.Blank(own[i]) {
			return false
		}
	}
	return true
}

// indented tells whether a content, of a line that is not empty, begins with a blank.
func indented(content string) bool {
	return chars.Blank(content[0])
}

// upToLast is how many lines there are up to the last one that is not empty, with it; 0: all are empty.
func upToLast(owns []string) int {
	count := len(owns)
	for count > 0 && empty(owns[count-1]) {
		count--
	}
	return count
}

// contents are lines without their indent.
func contents(owns []string) []string {
	width := indent(owns)
	list := make([]string, len(owns))
	for i, own := range owns {
		list[i] = own[min(width, spaces(own)):]
	}
	return list
}

// indent is how many spaces lines begin with, as the first one says that is not empty.
func indent(owns []string) int {
	for _, own := range owns {
		if !empty(own) {
			return spaces(own)
		}
	}
	return 0
}

// spaces is how many spaces a line begins with.
func spaces(own string) int {
	for i, r := range own {
		if r != ' ' {
			return i
		}
	}
	return len(own)
}
