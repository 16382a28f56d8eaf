package wam

import (
	"pythia/api"
	"pythia/arith"
	"pythia/term"
)

// catch does a goal of catch.
func (m *Machine) catch(g api.Term) api.Errno {
	called, err := m.now(g.Args[0])
	if err != api.OK {
		return err
	}
	return m.invoke(called, &catcher{
		frame:    m.frame,
		ball:     g.Args[1],
		recovery: g.Args[2],
		height:   len(m.choices),
		mark:     m.heap.Mark(),
	})
}

// throwNow throws a term as it is now.
func (m *Machine) throwNow(t api.Term) api.Errno {
	ball, err := m.now(t)
	if err != api.OK {
		return err
	}
	if ball.Kind == api.Var {
		ball = arith.Fault("instantiation_error")
	}
	return m.throw(ball, m.frame.catch)
}

// throw throws a ball: this catch has it first, then those around it.
func (m *Machine) throw(ball api.Term, c *catcher) api.Errno {
	own, _, _ := term.Rename(ball, 1)
	for ; c != nil; c = c.frame.catch {
		m.cut(c.height)
		m.heap.Undo(c.mark)
		m.heap.Keep(c.mark)
		fits, err := m.catches(c, own)
		if err != api.OK {
			return err
		}
		if fits {
			return m.recoverBy(c)
		}
	}
	m.event = api.Event{Kind: api.EvError, Term: own}
	return api.OK
}

// catches makes what a catch waits for and a ball the same, if they can be.
func (m *Machine) catches(c *catcher, ball api.Term) (bool, api.Errno) {
	at, _, err := m.heap.Put(ball)
	if err != api.OK {
		return false, err
	}
	pattern, err := m.place(c.ball)
	if err != api.OK {
		return false, err
	}
	return m.heap.Unify(pattern, at)
}

// recoverBy does in a catch's place what it is to do behind a ball.
func (m *Machine) recoverBy(c *catcher) api.Errno {
	m.frame = c.frame
	g, err := m.now(c.recovery)
	if err != api.OK {
		return err
	}
	return m.invoke(g, m.frame.catch)
}
