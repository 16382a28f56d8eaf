package heap

import "pythia/api"

// Take is the term at an address.
func (h *Heap) Take(at int) (api.Term, api.Errno) {
	if !h.has(at) {
		return api.Term{}, api.ErrArg
	}
	k := taker{heap: h}
	t, ok := k.take(at, 1)
	if !ok {
		return api.Term{}, api.ErrLong
	}
	return t, api.OK
}

// taker writes out a term, which may be greater than the heap is by any measure: so it counts.
type taker struct {
	heap *Heap
	size int
}

// take is a part that stands so deep; false, if the term is no right one.
func (k *taker) take(at, depth int) (api.Term, bool) {
	k.size++
	if k.size > api.MaxSize || depth > api.MaxDepth {
		return api.Term{}, false
	}
	at = k.heap.root(at)
	c := k.heap.cells[at]
	switch c.kind {
	case variable:
		return api.Term{Kind: api.Var, Int: int64(at) + 1}, true
	case number:
		return api.Term{Kind: api.Num, Int: c.number}, true
	case atom:
		return api.Term{Kind: api.Atom, Name: c.name}, true
	}
	t := api.Term{Kind: api.Comp, Name: c.name}
	for arg := range k.heap.args(at) {
		u, ok := k.take(arg, depth+1)
		if !ok {
			return api.Term{}, false
		}
		t.Args = append(t.Args, u)
	}
	return t, true
}
