package flow

import (
	"corrector/api"
)

// kind is that of a token. Behind the last one it is as if a TEnd stood: that ends whatever the end does.
func (r *reader) kind(at int) int {
	if at == len(r.tokens) {
		return api.TEnd
	}
	return r.tokens[at].Kind
}

// past is the first place from one on at which no token of a class stands; a TEnd is of none.
func (r *reader) past(at int, class func(kind int) bool) int {
	for class(r.kind(at)) {
		at++
	}
	return at
}

// behindCounted is the place behind the last token that counts ahead of one; there is such a token.
func (r *reader) behindCounted(at int) int {
	for isIdle(r.tokens[at-1].Kind) {
		at--
	}
	return at
}

// behindTexts is the place behind the last TText of a THead, or behind that, if none follow.
func (r *reader) behindTexts(head int) int {
	// Nothing else stands on the row: it would have been no THead.
	from := r.past(head+1, isRest)
	if r.kind(from) == api.TBreak {
		from++
	}
	if to := r.past(from, isText); to > from {
		return to
	}
	return head + 1
}

// behindBrackets is the place behind the end bracket by which as many are ended as begun, from a bracket on; if there is none: behind the last token that counts.
func (r *reader) behindBrackets(at int) int {
	open := 0
	for ; !isMark(r.kind(at)); at++ {
		switch r.kind(at) {
		case api.TOpenSeq, api.TOpenMap:
			open++
		case api.TEndSeq, api.TEndMap:
			open--
		}
		if open == 0 {
			return at + 1
		}
	}
	return r.behindCounted(at)
}

// behindOthers is the place behind what stands where a value is already, from its first token on.
func (r *reader) behindOthers(at int) int {
tokens:
	for {
		switch here := r.kind(at); {
		case here == api.TComma, isEnd(here), isMark(here):
			break tokens
		case here == api.TOpenSeq, here == api.TOpenMap:
			at = r.behindBrackets(at)
		default:
			at++
		}
	}
	return r.behindCounted(at)
}

// colon is where the TColon of the key stands that begins at a token, or none, if there is no key.
func (r *reader) colon(at int) int {
part:
	switch r.kind(at) {
	case api.TAnchor, api.TTag:
		at = r.past(at+1, isIdle)
		goto part
	case api.TPlain, api.TSingle, api.TDouble, api.TAlias:
		at = r.past(at+1, isIdle)
	}
	if r.kind(at) == api.TColon {
		return at
	}
	return none
}

// keyKind is the kind of the node over the tokens of a key.
func (r *reader) keyKind(from, to int) int {
	for _, token := range r.tokens[from:to] {
		if token.Kind == api.TAlias {
			return api.NAlias
		}
	}
	return api.NScalar
}

// begins tells whether a value begins with tokens of a kind.
func begins(kind int) bool {
	switch kind {
	case api.TAnchor, api.TTag, api.TAlias, api.TPlain, api.TSingle, api.TDouble, api.THead, api.TOpenSeq, api.TOpenMap:
		return true
	}
	return false
}

// isIdle tells whether tokens of a kind do not count.
func isIdle(kind int) bool {
	switch kind {
	case api.TBreak, api.TIndent, api.TBlank, api.TComment:
		return true
	}
	return false
}

func isBlank(kind int) bool {
	return kind == api.TBlank
}

// isRest tells whether tokens of a kind may stand behind a THead on its row, ahead of the break.
func isRest(kind int) bool {
	return kind == api.TBlank || kind == api.TComment
}

func isText(kind int) bool {
	return kind == api.TText
}

func isEnd(kind int) bool {
	return kind == api.TEndSeq || kind == api.TEndMap
}

func isMark(kind int) bool {
	return kind == api.TStart || kind == api.TEnd
}
