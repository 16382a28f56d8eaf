package wam

import (
	"pythia/api"
	"pythia/code"
)

// step does a step; its error is a limit that is reached.
func (m *Machine) step() api.Errno {
	if todo := m.todo; todo != nil {
		m.todo = nil
		return todo()
	}
	i := m.frame.ins[m.frame.next]
	m.frame.next++
	switch i.Op {
	case code.Get:
		return m.get(m.frame.args[i.A-1], i.T)
	case code.Call:
		return m.call(i.T)
	case code.Cut:
		m.cut(m.frame.height)
	case code.Fork:
		other := m.frame
		other.next = i.A
		return m.push(other, nil)
	case code.Jump:
		m.frame.next = i.A
	case code.Save:
		m.frame.save(i.A, len(m.choices))
	case code.Back:
		m.cut(m.frame.slots[i.A])
	case code.Fail:
		m.fail()
	case code.Done:
		return m.done()
	}
	return api.OK
}

// get makes a goal's argument the same as a term of the code. A variable that comes up first is just that argument, without a cell of its own.
func (m *Machine) get(arg int, t api.Term) api.Errno {
	if t.Kind == api.Var {
		at, ok := m.frame.cell(t.Int)
		if !ok {
			m.frame.setCell(t.Int, arg)
			return api.OK
		}
		_, err := m.unite(at, arg)
		return err
	}
	at, cells, err := m.heap.Put(t, m.frame.cells...)
	if err != api.OK {
		return err
	}
	m.frame.cells = cells
	_, err = m.unite(at, arg)
	return err
}

// call does a goal of the code.
func (m *Machine) call(t api.Term) api.Errno {
	g, err := m.meant(t)
	if g.Kind == api.Var {
		g, err = m.now(g)
	}
	if err != api.OK {
		return err
	}
	if ball, ok := uncallable(g); ok {
		return m.throw(ball, m.frame.catch)
	}
	return m.do(g)
}

// done goes on behind a goal that has come true.
func (m *Machine) done() api.Errno {
	if m.frame.up != nil {
		m.frame = *m.frame.up
		return api.OK
	}
	g, err := m.meant(m.goal)
	if err != api.OK {
		return err
	}
	g, err = m.now(g)
	if err != api.OK {
		return err
	}
	m.event = api.Event{Kind: api.EvAnswer, Term: g}
	m.fail()
	return api.OK
}
