package heap

import "pythia/api"

// Unify makes two terms the same, or changes nothing.
func (h *Heap) Unify(a, b int) (bool, api.Errno) {
	if !h.has(a) || !h.has(b) {
		return false, api.ErrArg
	}
	was := len(h.trail)
	u := union{heap: h}
	ok := u.unite(a, b) && u.isFinite(was)
	u.part()
	if ok && len(h.trail) <= h.mostNotes {
		return true, api.OK
	}
	h.free(was)
	if ok {
		return false, api.ErrTrail
	}
	return false, api.OK
}

// union makes terms the same. A compound term that has become the same as another one speaks of it for so long, so that no two are held against each other again: a term's parts may stand in it more often than can be counted.
type union struct {
	heap   *Heap
	joined []int // the compound terms that speak of others
	states []state
}

// state is how far a term was searched for itself.
type state uint8

const (
	unsearched state = iota
	underWay
	searched
)

// unite lets two terms become the same, and with them their arguments; false, if they can't.
func (u *union) unite(a, b int) bool {
	todo := [][2]int{{a, b}}
	for len(todo) > 0 {
		last := len(todo) - 1
		a, b := u.heap.root(todo[last][0]), u.heap.root(todo[last][1])
		todo = todo[:last]
		if a == b {
			continue
		}
		if !u.join(min(a, b), max(a, b)) {
			return false
		}
		x, y := a+1, b+1
		for range min(u.heap.cells[a].args, u.heap.cells[b].args) { // of a variable there are none
			todo = append(todo, [2]int{x, y})
			x, y = u.heap.cells[x].behind, u.heap.cells[y].behind
		}
	}
	return true
}

// join lets one of two cells speak of the other one; of two variables the one behind, so that the one with the least number stands for all.
func (u *union) join(ahead, behind int) bool {
	a, b := u.heap.cells[ahead], u.heap.cells[behind]
	switch {
	case b.kind == variable:
		u.bind(behind, ahead)
	case a.kind == variable:
		u.bind(ahead, behind)
	case a.kind != b.kind || a.number != b.number || a.name != b.name || a.args != b.args:
		return false
	case a.kind == compound:
		u.refer(behind, ahead)
		u.joined = append(u.joined, behind)
	}
	return true
}

// bind lets a variable become what stands at another address, and notes it: there may be more notes than may be till it is known whether there is a solution.
func (u *union) bind(at, to int) {
	u.refer(at, to)
	u.heap.trail = append(u.heap.trail, at)
}

func (u *union) refer(at, to int) {
	u.heap.cells[at].kind = reference
	u.heap.cells[at].to = to
}

// part lets compound terms be themselves again: their arguments have become the same.
func (u *union) part() {
	for _, at := range u.joined {
		u.heap.cells[at].kind = compound
	}
}

// isFinite tells whether no variable that was noted behind so many notes has become a term in which it stands itself.
func (u *union) isFinite(notes int) bool {
	for _, at := range u.heap.trail[notes:] {
		if !u.search(at) {
			return false
		}
	}
	return true
}

// search tells whether a term isn't within itself.
func (u *union) search(at int) bool {
	at = u.heap.root(at)
	if u.heap.cells[at].kind != compound {
		return true
	}
	if u.states == nil {
		u.states = make([]state, len(u.heap.cells))
	}
	if u.states[at] != unsearched {
		return u.states[at] == searched
	}
	u.states[at] = underWay
	for arg := range u.heap.args(at) {
		if !u.search(arg) {
			return false
		}
	}
	u.states[at] = searched
	return true
}
