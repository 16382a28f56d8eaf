package wam

import (
	"slices"

	"pythia/api"
	"pythia/arith"
	"pythia/base"
	"pythia/code"
	"pythia/pure"
	"pythia/term"
)

// uncallable is the ball of a term that is no goal: a variable or a number.
func uncallable(t api.Term) (api.Term, bool) {
	switch t.Kind {
	case api.Var:
		return arith.Fault("instantiation_error"), true
	case api.Num:
		return arith.Fault("type_error", atom("callable"), t), true
	}
	return api.Term{}, false
}

// do does a goal, which is in the heap's variables.
func (m *Machine) do(g api.Term) api.Errno {
	p, _ := base.Of(g)
	clauses, isOwn := m.program[p]
	switch {
	case isOwn:
		return m.try(g, clauses)
	case isCall(p):
		return m.callWith(g.Args[0], g.Args[1:])
	case p == catchPred():
		return m.catch(g)
	case p == throwPred():
		return m.throwNow(g.Args[0])
	}
	now, err := m.now(g)
	switch {
	case err != api.OK:
		return err
	case isAsCalled(p):
		return m.invoke(now, m.frame.catch)
	case pure.Knows(p):
		return m.settle(g, now)
	}
	m.asked = g
	m.event = api.Event{Kind: api.EvAsk, Term: now}
	return api.OK
}

// try tries clauses for a goal, one after the other.
func (m *Machine) try(g api.Term, clauses []*code.Code) api.Errno {
	clauses = m.fitting(g, clauses)
	if len(clauses) == 0 {
		m.fail()
		return api.OK
	}
	args, err := m.placeGoal(g)
	if err != api.OK {
		return err
	}
	m.enter(*clauses[0], args, m.frame.catch)
	if len(clauses) == 1 {
		return api.OK
	}
	other := m.frame
	other.ins = clauses[1].Ins
	return m.push(other, clauses[2:])
}

// fitting are those clauses that may be tried for a goal: none that is of another predicate, or that nothing would make the same.
func (m *Machine) fitting(g api.Term, clauses []*code.Code) []*code.Code {
	p, _ := base.Of(g)
	var args []api.Term
	for _, arg := range g.Args {
		now, err := m.now(arg)
		if err != api.OK { // one that is too great may fit
			now = arg
		}
		args = append(args, now)
	}
	return slices.DeleteFunc(slices.Clone(clauses), func(c *code.Code) bool {
		if c.Pred != p {
			return true
		}
		for i, arg := range args {
			if !mayFit(c.Ins[i].T, arg) {
				return true
			}
		}
		return false
	})
}

// mayFit tells whether two terms may be made the same, as far as their variables aren't looked at.
func mayFit(a, b api.Term) bool {
	if a.Kind == api.Var || b.Kind == api.Var {
		return true
	}
	return a.Kind == b.Kind && a.Name == b.Name && a.Int == b.Int && slices.EqualFunc(a.Args, b.Args, mayFit)
}

// callWith does a goal with some arguments more, as by call.
func (m *Machine) callWith(g api.Term, more []api.Term) api.Errno {
	g, err := m.now(g)
	if err != api.OK {
		return err
	}
	if _, ok := uncallable(g); ok || len(more) == 0 {
		return m.invoke(g, m.frame.catch)
	}
	if len(g.Args)+len(more) > api.MaxArity {
		return m.throw(arith.Fault("representation_error", atom("max_arity")), m.frame.catch)
	}
	g, err = m.now(compound(g.Name, slices.Concat(g.Args, more)...))
	if err != api.OK {
		return err
	}
	return m.invoke(g, m.frame.catch)
}

// invoke does a goal, as it is now, as by call, within a catch.
func (m *Machine) invoke(g api.Term, catch *catcher) api.Errno {
	if ball, ok := uncallable(g); ok {
		return m.throw(ball, catch)
	}
	c, err := code.Goal(g)
	if err != api.OK {
		return err
	}
	var args []int
	for _, v := range term.Vars(g) {
		args = append(args, cellOf(v))
	}
	m.enter(c, args, catch)
	return api.OK
}

// settle does a goal of layer 17, which is told as it is now, too.
func (m *Machine) settle(g, now api.Term) api.Errno {
	out, ok := pure.Do(now)
	switch {
	case !ok: // it knows the goal: so a term of the answer isn't right
		return api.ErrTerm
	case out.Ball.Kind != 0:
		return m.throw(out.Ball, m.frame.catch)
	case !out.Ok:
		m.fail()
		return api.OK
	}
	p := places{machine: m, goal: g, now: now, cells: cellsOf(now)}
	for i := range out.Left {
		ok, err := p.unite(out.Left[i], out.Right[i])
		if err != api.OK || !ok {
			return err
		}
	}
	return api.OK
}
