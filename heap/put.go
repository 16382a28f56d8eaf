package heap

import (
	"strings"

	"pythia/api"
	"pythia/term"
)

// Put puts a term in.
func (h *Heap) Put(t api.Term, env ...int) (int, []int, api.Errno) {
	if term.Check(t) != api.OK {
		return 0, nil, api.ErrTerm
	}
	vars := term.Vars(t)
	switch {
	case len(env) > api.MaxSize || !h.areThere(vars, env):
		return 0, nil, api.ErrArg
	case len(h.cells)+term.Size(t) > h.mostCells:
		return 0, nil, api.ErrHeap
	}
	at := len(h.cells)
	stands := places(vars, env)
	h.put(t, stands)
	return at, stands, api.OK
}

// areThere tells whether variables have places, and stand for addresses that there are.
func (h *Heap) areThere(vars []int64, env []int) bool {
	for _, v := range vars {
		if v > api.MaxSize || v <= int64(len(env)) && env[v-1] >= len(h.cells) {
			return false
		}
	}
	return true
}

// nothing is what a number stands for that no variable has, or a variable that is new.
const nothing = -1

// places are what env says of each number, with as many places as it and the variables need.
func places(vars []int64, env []int) []int {
	most := len(env)
	for _, v := range vars {
		most = max(most, int(v))
	}
	stands := make([]int, most)
	for i := range stands {
		stands[i] = nothing
		if i < len(env) && env[i] >= 0 {
			stands[i] = env[i]
		}
	}
	return stands
}

// put puts a part of a term in, and notes what new variables stand for.
func (h *Heap) put(t api.Term, stands []int) {
	at := len(h.cells)
	h.cells = append(h.cells, cell{})
	var c cell
	switch t.Kind {
	case api.Var:
		if to := stands[t.Int-1]; to == nothing {
			stands[t.Int-1] = at
		} else {
			// What the address speaks of now it does as long as this cell is there: what has made it so stands on the trail ahead of any mark that this cell is behind.
			c = cell{kind: reference, to: h.root(to)}
		}
	case api.Num:
		c = cell{kind: number, number: t.Int}
	case api.Atom:
		c = cell{kind: atom, name: strings.Clone(t.Name)} // it may be a piece of a long text, which would be held on to
	case api.Comp:
		c = cell{kind: compound, name: strings.Clone(t.Name), args: len(t.Args)}
		for _, arg := range t.Args {
			h.put(arg, stands)
		}
	}
	c.behind = len(h.cells)
	h.cells[at] = c
}
