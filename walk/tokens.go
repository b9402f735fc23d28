package walk

import (
	"sort"

	"corrector/api"
)

// tokenAt is which token has a byte, or none.
func tokenAt(l []api.Token, at int) int {
	// They stand one behind the other: of those that end behind the byte only the first one may begin ahead.
	i := sort.Search(len(l), func(i int) bool { return at < l[i].To })
	if i == len(l) || at < l[i].From {
		return none
	}
	return i
}

// beginOf is the byte at which a token begins; of the one that would be next behind all, where the last one ends.
func beginOf(l []api.Token, token int) int {
	switch {
	case token < len(l):
		return l[token].From
	case token > 0:
		return l[token-1].To
	}
	return 0
}
