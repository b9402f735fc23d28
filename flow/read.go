package flow

import (
	"corrector/api"
)

// reader reads a value. Its nodes have numbers of their own: the value is 0, and those in it are behind the one that they are in.
type reader struct {
	tokens []api.Token
	nodes  []api.Node
	told   []api.Diag
}

// value reads one into a node, and answers where it ends; at: there is none.
func (r *reader) value(up, at, depth int) (next int) {
	first := r.past(at, isBlank)
	here, meant := first, first
part:
	switch r.kind(here) {
	case api.TAnchor, api.TTag:
		meant = here + 1
		here = r.past(meant, isBlank)
		goto part
	case api.TPlain, api.TSingle, api.TDouble:
		return r.leaf(up, api.NScalar, first, here+1)
	case api.TAlias:
		return r.leaf(up, api.NAlias, first, here+1)
	case api.THead:
		return r.leaf(up, api.NScalar, first, r.behindTexts(here))
	case api.TOpenSeq, api.TOpenMap:
		if depth == 0 {
			return r.fault(up, api.DDeep, first, r.behindBrackets(here))
		}
		return r.collection(up, first, here, depth)
	}
	if meant == first {
		return at
	}
	return r.leaf(up, api.NScalar, first, meant)
}

// collection reads the one whose bracket stands there, from its first token on, into a node, and answers where it ends.
func (r *reader) collection(up, first, bracket, depth int) (next int) {
	kind, own := api.NFlowS, api.TEndSeq
	if r.kind(bracket) == api.TOpenMap {
		kind, own = api.NFlowM, api.TEndMap
	}
	node := r.add(up, kind, first)
	at := bracket + 1
	// Whether a value stands there since the last TComma.
	full := false
	stray := func(to int) {
		at = r.fault(node, api.DStray, at, to)
	}
again:
	at = r.past(at, isIdle)
	switch here := r.kind(at); {
	case here == own:
		return r.reach(node, at+1)
	case isMark(here):
		r.tell(api.DOpen, bracket, bracket+1)
		return r.reach(node, r.behindCounted(at))
	case isEnd(here), here == api.TComma && !full:
		stray(at + 1)
	case here == api.TComma:
		full = false
		at++
	case full:
		stray(r.behindOthers(at))
	default:
		next = r.entry(node, at, depth-1)
		if full = next > at; full {
			at = next
		} else {
			stray(at + 1)
		}
	}
	goto again
}

// entry reads a pair or a value into a collection, and answers where it ends; at: there is none.
func (r *reader) entry(up, at, depth int) (next int) {
	if colon := r.colon(at); colon != none {
		return r.pair(up, at, colon, depth)
	}
	if r.nodes[up].Kind == api.NFlowM && begins(r.kind(at)) {
		pair := r.add(up, api.NPair, at)
		r.nodes[pair].Key = true
		return r.reach(pair, r.value(pair, at, depth))
	}
	return r.value(up, at, depth)
}

// pair reads one into a collection, its key and what stands behind its colon, and answers where it ends.
func (r *reader) pair(up, at, colon, depth int) (next int) {
	pair := r.add(up, api.NPair, at)
	if at < colon {
		r.nodes[pair].Key = true
		r.leaf(pair, r.keyKind(at, colon), at, r.behindCounted(colon))
	}
	from := r.past(colon+1, isIdle)
	if next = r.value(pair, from, depth); next == from {
		next = colon + 1
	}
	return r.reach(pair, next)
}

// add puts a node into another one (none: it is the value), and answers its number. It reaches nowhere yet.
func (r *reader) add(up, kind, from int) (at int) {
	at = len(r.nodes)
	r.nodes = append(r.nodes, api.Node{Kind: kind, From: from, Up: up})
	if up != none {
		r.nodes[up].Kids = append(r.nodes[up].Kids, at)
	}
	return at
}

// reach lets a node, in which all is read, end there, and answers where it does.
func (r *reader) reach(at, to int) (next int) {
	r.nodes[at].To = to
	return to
}

// leaf puts a node in which there is none into another one, and answers where it ends.
func (r *reader) leaf(up, kind, from, to int) (next int) {
	return r.reach(r.add(up, kind, from), to)
}

// fault puts an error over tokens into a node, and answers where it ends.
func (r *reader) fault(up, code, from, to int) (next int) {
	r.tell(code, from, to)
	return r.leaf(up, api.NError, from, to)
}

// tell puts a diagnostic over tokens behind what is told.
func (r *reader) tell(code, from, to int) {
	r.told = append(r.told, api.Diag{Code: code, From: r.tokens[from].From, To: r.tokens[to-1].To})
}
