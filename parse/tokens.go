package parse

import (
	"corrector/api"
)

// counted is where the first token that counts stands, from one on to ahead of another one; to: none does.
func (r *reader) counted(from, to int) int {
	for from < to && isIdle(r.tokens[from].Kind) {
		from++
	}
	return from
}

// behindCounted is the place behind the last token that counts ahead of one; there is such a token.
func (r *reader) behindCounted(at int) int {
	for isIdle(r.tokens[at-1].Kind) {
		at--
	}
	return at
}

// nextMark is where the next TStart or TEnd stands, from a token on, or the end.
func (r *reader) nextMark(at int) int {
	for at < len(r.tokens) && !isMark(r.tokens[at].Kind) {
		at++
	}
	return at
}

// isIdle tells whether tokens of a kind do not count.
func isIdle(kind int) bool {
	switch kind {
	case api.TBreak, api.TIndent, api.TBlank, api.TComment:
		return true
	}
	return false
}

func isMark(kind int) bool {
	return kind == api.TStart || kind == api.TEnd
}
