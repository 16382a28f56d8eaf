package wam

import (
	"pythia/api"
	"pythia/term"
)

// A term in the heap's variables is as the heap tells it: variable n is what stands in cell n - 1.

func atom(name string) api.Term { return api.Term{Kind: api.Atom, Name: name} }

func compound(name string, args ...api.Term) api.Term {
	return api.Term{Kind: api.Comp, Name: name, Args: args}
}

// variableAt is the heap's variable for a cell; cellOf is a variable's cell.
func variableAt(at int) api.Term { return api.Term{Kind: api.Var, Int: int64(at) + 1} }

func cellOf(v int64) int { return int(v - 1) }

// cellsOf are the cells of a term's variables.
func cellsOf(t api.Term) map[int64]int {
	cells := map[int64]int{}
	for _, v := range term.Vars(t) {
		cells[v] = cellOf(v)
	}
	return cells
}

// meant is a term of the frame's code in the heap's variables: each of its own has a cell then.
func (m *Machine) meant(t api.Term) (api.Term, api.Errno) {
	var binds []api.Bind
	for _, v := range term.Vars(t) {
		at, err := m.cell(v)
		if err != api.OK {
			return api.Term{}, err
		}
		binds = append(binds, api.Bind{Var: v, To: variableAt(at)})
	}
	return term.Apply(t, binds)
}

// cell is where a variable of the frame's code stands: in a new cell, if it has none yet.
func (m *Machine) cell(v int64) (int, api.Errno) {
	if at, ok := m.frame.cell(v); ok {
		return at, api.OK
	}
	at, _, err := m.heap.Put(api.Term{Kind: api.Var, Int: 1})
	if err != api.OK {
		return 0, err
	}
	m.frame.setCell(v, at)
	return at, api.OK
}

// now is a term in the heap's variables as it is now.
func (m *Machine) now(t api.Term) (api.Term, api.Errno) {
	if t.Kind == api.Var {
		return m.heap.Take(cellOf(t.Int))
	}
	var binds []api.Bind
	for _, v := range term.Vars(t) {
		to, err := m.heap.Take(cellOf(v))
		if err != api.OK {
			return api.Term{}, err
		}
		binds = append(binds, api.Bind{Var: v, To: to})
	}
	return term.Apply(t, binds)
}

// place is where a term in the heap's variables stands: a variable does so already, anything else is put in.
func (m *Machine) place(t api.Term) (int, api.Errno) {
	if t.Kind == api.Var {
		return cellOf(t.Int), api.OK
	}
	return m.put(t, cellsOf(t))
}

// put puts a term in; its variables that have no cells get new ones.
func (m *Machine) put(t api.Term, cells map[int64]int) (int, api.Errno) {
	own, _, err := term.Rename(t, 1) // the heap takes no great numbers
	if err != api.OK {
		return 0, err
	}
	var env []int
	vars := term.Vars(t)
	for _, v := range vars {
		at, ok := cells[v]
		if !ok {
			at = unset
		}
		env = append(env, at)
	}
	at, env, err := m.heap.Put(own, env...)
	if err != api.OK {
		return 0, err
	}
	for i, v := range vars {
		cells[v] = env[i]
	}
	return at, api.OK
}

// placeGoal is where a goal's arguments stand. Its name takes a cell, too: so goals within goals, that never come true, come to an end.
func (m *Machine) placeGoal(g api.Term) ([]int, api.Errno) {
	if _, _, err := m.heap.Put(atom(g.Name)); err != api.OK {
		return nil, err
	}
	var args []int
	for _, arg := range g.Args {
		at, err := m.place(arg)
		if err != api.OK {
			return nil, err
		}
		args = append(args, at)
	}
	return args, api.OK
}

// unite makes what stands in two cells the same; if it can't be, there is failure next.
func (m *Machine) unite(a, b int) (bool, api.Errno) {
	ok, err := m.heap.Unify(a, b)
	if err == api.OK && !ok {
		m.fail()
	}
	return ok, err
}

// places are where the terms stand that layer 17 tells of a goal.
type places struct {
	machine *Machine
	goal    api.Term // in the heap's variables
	now     api.Term // as it is now
	cells   map[int64]int
}

// of is where a term stands: one of the goal's arguments does so as that, which may take fewer cells than to write it out.
func (p *places) of(t api.Term) (int, api.Errno) {
	for i, arg := range p.now.Args {
		if term.Same(t, arg) {
			return p.machine.place(p.goal.Args[i])
		}
	}
	return p.machine.put(t, p.cells)
}

// unite makes two terms the same; if they can't be, there is failure next.
func (p *places) unite(a, b api.Term) (bool, api.Errno) {
	left, err := p.of(a)
	if err != api.OK {
		return false, err
	}
	right, err := p.of(b)
	if err != api.OK {
		return false, err
	}
	return p.machine.unite(left, right)
}
