package heap

import "iter"

// kind is what a cell is.
type kind int

const (
	variable  kind = iota
	reference      // it is what stands at another address
	number
	atom
	compound
)

// cell is a symbol of a term; behind a compound one's lie those of its arguments, from the first on.
type cell struct {
	kind   kind
	name   string // of an atom or a compound term
	number int64
	args   int // how many arguments a compound term has
	to     int // the address of which a reference speaks
	behind int // the first address behind the term that begins here
}

// has tells whether there is an address.
func (h *Heap) has(at int) bool { return at >= 0 && at < len(h.cells) }

// root is where stands what an address speaks of.
func (h *Heap) root(at int) int {
	for h.cells[at].kind == reference {
		at = h.cells[at].to
	}
	return at
}

// args are the addresses of a compound term's arguments.
func (h *Heap) args(at int) iter.Seq[int] {
	return func(yield func(int) bool) {
		arg := at + 1
		for range h.cells[at].args {
			if !yield(arg) {
				return
			}
			arg = h.cells[arg].behind
		}
	}
}
