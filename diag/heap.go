package diag

import (
	"cmp"
	"container/heap"

	"corrector/api"
)

// take is the first one in order of a heap that isn't empty.
func take(h *least) api.Diag {
	// It can't fail: Push lets nothing but diagnostics in, and Pop hands out nothing else.
	return heap.Pop(h).(api.Diag)
}

// least is a heap of diagnostics (container/heap), the first one in order on top.
type least struct{ diags []api.Diag }

func (h *least) Len() int { return len(h.diags) }

func (h *least) Less(i, j int) bool {
	a, b := h.diags[i], h.diags[j]
	return cmp.Or(cmp.Compare(a.From, b.From), cmp.Compare(a.To, b.To), cmp.Compare(a.Code, b.Code)) < 0
}

func (h *least) Swap(i, j int) { h.diags[i], h.diags[j] = h.diags[j], h.diags[i] }

// Push takes a diagnostic in; of anything else nothing.
func (h *least) Push(x any) {
	if d, ok := x.(api.Diag); ok {
		h.diags = append(h.diags, d)
	}
}

// Pop gives the last one of the heap's row out: the library has put the top one there.
func (h *least) Pop() any {
	n := len(h.diags) - 1
	d := h.diags[n]
	h.diags = h.diags[:n]
	return d
}
