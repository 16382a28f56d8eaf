package wam_test

import (
	"pythia/api"
	"pythia/arith"
	"pythia/base"
	"pythia/pure"
	"pythia/term"
)

// model does goals as the chapter's words do, on plain terms, with a solution that grows and is taken back: what comes behind a goal is done within it, so that going back is going out. It counts what the promise about limits counts.
type model struct {
	program  []api.Clause
	reply    func(i int, ask api.Term) api.Reply
	budget   int // how many goals may be done
	events   []api.Event
	asks     int
	solution map[int64]api.Term
	bound    []int64 // the variables that have a solution, in order
	greatest int64   // the greatest variable that was ever used
	symbols  int     // of all terms that were made: each goal as it was then, each clause that was tried
	written  int     // the same, each goal as it is written
	choices  int     // the most at a time
	beyond   bool    // a term wasn't right, or the budget is used up: the events are just the first ones
}

// outcome is how doing goals ended.
type outcome struct {
	kind outcomeKind
	of   *fence   // of a cut
	by   *guard   // of a ball: who has it first
	ball api.Term // of a ball, renamed
}

type outcomeKind int

const (
	failed outcomeKind = iota
	cut                // failed, and with it all choices behind the fence
	thrown
	ended // there is nothing more to tell
)

// fence is a place that a cut goes back to: how many choices there were.
type fence struct{ choices int }

// guard is a catch that is under way.
type guard struct {
	outer *guard
}

// state is what is so at a moment, beside the solution.
type state struct {
	choices int
	guard   *guard
}

// then is what comes behind a goal.
type then func(s state) outcome

// modelled is what a program and a goal tell.
func modelled(program []api.Clause, goal api.Term, budget int, reply func(i int, ask api.Term) api.Reply) *model {
	m := &model{program: program, reply: reply, budget: budget, solution: map[int64]api.Term{}}
	g := m.renamed(goal)
	o := m.do(g, g, state{}, func(state) outcome {
		if answer, ok := m.right(g); ok {
			m.tell(api.EvAnswer, answer)
			return outcome{}
		}
		return outcome{kind: ended}
	})
	switch o.kind {
	case failed:
		m.events = append(m.events, api.Event{Kind: api.EvFail})
	case thrown:
		m.tell(api.EvError, o.ball)
	}
	return m
}

func (m *model) tell(kind int, t api.Term) {
	own, _, _ := term.Rename(t, 1)
	m.events = append(m.events, api.Event{Kind: kind, Term: own})
}

// renamed is a term with new variables.
func (m *model) renamed(t api.Term) api.Term {
	own, next, _ := term.Rename(t, m.greatest+1)
	m.greatest = max(m.greatest, next-1)
	return own
}

// resolved is a term as it is now, with at most so many symbols.
func (m *model) resolved(t api.Term, room *int) api.Term {
	*room--
	for t.Kind == api.Var {
		to, ok := m.solution[t.Int]
		if !ok {
			return t
		}
		t = to
	}
	if t.Kind != api.Comp || *room < 0 {
		return t
	}
	var args []api.Term
	for _, arg := range t.Args {
		args = append(args, m.resolved(arg, room))
	}
	return co(t.Name, args...)
}

// right is a term as it is now; if that isn't right, it is beyond what the model tells.
func (m *model) right(t api.Term) (api.Term, bool) {
	room := 5000
	now := m.resolved(t, &room)
	if term.Check(now) != api.OK {
		m.beyond = true
		return api.Term{}, false
	}
	return now, true
}

// back takes back what has been bound behind so many.
func (m *model) back(bound int) {
	for _, v := range m.bound[bound:] {
		delete(m.solution, v)
	}
	m.bound = m.bound[:bound]
}

// unify makes two terms the same, or nothing more than a part of them.
func (m *model) unify(a, b api.Term) bool {
	a, b = m.walked(a), m.walked(b)
	switch {
	case a.Kind == api.Var && b.Kind == api.Var && a.Int == b.Int:
		return true
	case a.Kind == api.Var:
		return m.bind(a.Int, b)
	case b.Kind == api.Var:
		return m.bind(b.Int, a)
	case a.Kind != b.Kind || a.Name != b.Name || a.Int != b.Int || len(a.Args) != len(b.Args):
		return false
	}
	for i := range a.Args {
		if !m.unify(a.Args[i], b.Args[i]) {
			return false
		}
	}
	return true
}

func (m *model) walked(t api.Term) api.Term {
	for t.Kind == api.Var {
		to, ok := m.solution[t.Int]
		if !ok {
			break
		}
		t = to
	}
	return t
}

func (m *model) bind(v int64, t api.Term) bool {
	if m.within(v, t) {
		return false
	}
	m.solution[v] = t
	m.bound = append(m.bound, v)
	return true
}

// within tells whether a variable stands in a term.
func (m *model) within(v int64, t api.Term) bool {
	t = m.walked(t)
	if t.Kind == api.Var {
		return t.Int == v
	}
	for _, arg := range t.Args {
		if m.within(v, arg) {
			return true
		}
	}
	return false
}

// fenced is what comes of goals behind a fence: a cut to it is no more than failure.
func fenced(f *fence, o outcome) outcome {
	if o.kind == cut && o.of == f {
		return outcome{}
	}
	return o
}

// either does one thing, then, if it fails, another one.
func (m *model) either(s state, one, other func(s state) outcome) outcome {
	m.choices = max(m.choices, s.choices+1)
	was := len(m.bound)
	o := one(state{s.choices + 1, s.guard})
	if o.kind != failed {
		return o
	}
	m.back(was)
	return other(s)
}

// body does a body, as it is written, whose cuts go back to a fence.
func (m *model) body(t api.Term, f *fence, s state, k then) outcome {
	p, _ := base.Of(t)
	switch {
	case p == api.Pred{Name: "true"}:
		return k(s)
	case p == api.Pred{Name: "fail"} || p == api.Pred{Name: "false"}:
		return outcome{}
	case p == api.Pred{Name: "!"}:
		return cutBehind(f, s, k)
	case p == api.Pred{Name: ",", Arity: 2}:
		return m.body(t.Args[0], f, s, func(s state) outcome { return m.body(t.Args[1], f, s, k) })
	case p == api.Pred{Name: "->", Arity: 2}:
		return m.condition(t.Args[0], s, func(s state) outcome { return m.body(t.Args[1], f, s, k) }, nil)
	case p == api.Pred{Name: `\+`, Arity: 1}:
		return m.condition(t.Args[0], s, nil, k)
	case p == api.Pred{Name: ";", Arity: 2}:
		other := func(s state) outcome { return m.body(t.Args[1], f, s, k) }
		if c, _ := base.Of(t.Args[0]); c == (api.Pred{Name: "->", Arity: 2}) {
			return m.condition(t.Args[0].Args[0], s, func(s state) outcome { return m.body(t.Args[0].Args[1], f, s, k) }, other)
		}
		return m.either(s, func(s state) outcome { return m.body(t.Args[0], f, s, k) }, other)
	}
	now, ok := m.right(t)
	if !ok {
		return outcome{kind: ended}
	}
	return m.do(now, t, s, k)
}

// cutBehind goes on with no more choices than there were at a fence.
func cutBehind(f *fence, s state, k then) outcome {
	o := k(state{f.choices, s.guard})
	if o.kind == failed {
		return outcome{kind: cut, of: f}
	}
	return o
}

// condition does one thing, if a condition comes true, else another one; of none there is failure.
func (m *model) condition(c api.Term, s state, one, other then) outcome {
	for _, k := range []*then{&one, &other} {
		if *k == nil {
			*k = func(state) outcome { return outcome{} }
		}
	}
	all, own := &fence{s.choices}, &fence{s.choices + 1}
	return fenced(all, m.either(s, func(s state) outcome {
		return fenced(own, m.body(c, own, s, func(s state) outcome { return cutBehind(all, s, one) }))
	}, other))
}

// do does a goal, as it is now and as it is written.
func (m *model) do(g, written api.Term, s state, k then) outcome {
	m.symbols += term.Size(g)
	m.written += term.Size(written)
	m.budget--
	if m.budget < 0 {
		m.beyond = true
		return outcome{kind: ended}
	}
	p, ok := base.Of(g)
	switch {
	case !ok:
		return m.call(g, s, k)
	case pure.Knows(p):
		return m.pure(g, s, k)
	case p == api.Pred{Name: "throw", Arity: 1}:
		if g.Args[0].Kind == api.Var {
			return m.throw(arith.Fault("instantiation_error"), s)
		}
		return m.throw(g.Args[0], s)
	case p == api.Pred{Name: "catch", Arity: 3}:
		return m.catch(g, s, k)
	case p.Name == "call" && p.Arity > 0:
		return m.callMore(g.Args[0], g.Args[1:], s, k)
	}
	for _, control := range []api.Pred{{Name: ",", Arity: 2}, {Name: ";", Arity: 2}, {Name: "->", Arity: 2}, {Name: `\+`, Arity: 1}, {Name: "!"}} {
		if p == control {
			return m.call(g, s, k)
		}
	}
	var own []api.Clause
	for _, c := range m.program {
		if head, _ := base.Of(c.Head); head == p {
			own = append(own, c)
		}
	}
	if len(own) > 0 {
		return m.tried(g, own, s, k)
	}
	return m.asked(g, s, k)
}

// call does a goal, as it is now, as by call.
func (m *model) call(g api.Term, s state, k then) outcome {
	switch g.Kind {
	case api.Var:
		return m.throw(arith.Fault("instantiation_error"), s)
	case api.Num:
		return m.throw(arith.Fault("type_error", at("callable"), g), s)
	}
	f := &fence{s.choices}
	return fenced(f, m.body(g, f, s, k))
}

func (m *model) callMore(g api.Term, more []api.Term, s state, k then) outcome {
	if g.Kind >= api.Atom && len(more) > 0 {
		args := append(append([]api.Term{}, g.Args...), more...)
		if len(args) > api.MaxArity {
			return m.throw(arith.Fault("representation_error", at("max_arity")), s)
		}
		g = co(g.Name, args...)
		if term.Check(g) != api.OK {
			m.beyond = true
			return outcome{kind: ended}
		}
	}
	return m.call(g, s, k)
}

func (m *model) throw(ball api.Term, s state) outcome {
	if term.Check(ball) != api.OK {
		m.beyond = true
		return outcome{kind: ended}
	}
	own, _, _ := term.Rename(ball, 1)
	return outcome{kind: thrown, by: s.guard, ball: own}
}

func (m *model) catch(g api.Term, s state, k then) outcome {
	mine := &guard{s.guard}
	was := len(m.bound)
	o := m.call(g.Args[0], state{s.choices, mine}, func(inner state) outcome { return k(state{inner.choices, s.guard}) })
	if o.kind != thrown || o.by != mine {
		return o
	}
	m.back(was)
	if !m.unify(g.Args[1], m.renamed(o.ball)) {
		m.back(was)
		return outcome{kind: thrown, by: s.guard, ball: o.ball}
	}
	recovery, ok := m.right(g.Args[2])
	if !ok {
		return outcome{kind: ended}
	}
	return m.call(recovery, s, k)
}

func (m *model) pure(g api.Term, s state, k then) outcome {
	own, next, _ := term.Rename(g, 1)
	out, known := pure.Do(own)
	if !known {
		m.beyond = true
		return outcome{kind: ended}
	}
	var binds []api.Bind // from the goal's variables to those that they are renamed of, and from new ones to new ones
	for i, v := range term.Vars(g) {
		binds = append(binds, api.Bind{Var: int64(i) + 1, To: va(v)})
	}
	for _, t := range append(append([]api.Term{}, out.Left...), out.Right...) {
		for _, v := range term.Vars(t) {
			if v >= next {
				next = v + 1
				m.greatest++
				binds = append(binds, api.Bind{Var: v, To: va(m.greatest)})
			}
		}
	}
	switch {
	case out.Ball.Kind != 0:
		return m.throw(out.Ball, s)
	case !out.Ok:
		return outcome{}
	}
	for i := range out.Left {
		left, _ := term.Apply(out.Left[i], binds)
		right, _ := term.Apply(out.Right[i], binds)
		if !m.unify(left, right) {
			return outcome{}
		}
	}
	return k(s)
}

// tried tries clauses in order.
func (m *model) tried(g api.Term, clauses []api.Clause, s state, k then) outcome {
	f := &fence{s.choices}
	return fenced(f, m.triedFrom(g, clauses, f, s, k))
}

func (m *model) triedFrom(g api.Term, clauses []api.Clause, f *fence, s state, k then) outcome {
	one := func(s state) outcome {
		own := m.renamed(base.Term(clauses[0]))
		m.symbols += term.Size(own)
		m.written += term.Size(own)
		if !m.unify(g, own.Args[0]) {
			return outcome{}
		}
		return m.body(own.Args[1], f, s, k)
	}
	if len(clauses) == 1 {
		return one(s)
	}
	return m.either(s, one, func(s state) outcome { return m.triedFrom(g, clauses[1:], f, s, k) })
}

// asked asks for a goal.
func (m *model) asked(g api.Term, s state, k then) outcome {
	m.tell(api.EvAsk, g)
	own, _, _ := term.Rename(g, 1)
	r := m.reply(m.asks, own)
	m.asks++
	switch {
	case r.Ball.Kind != 0:
		return m.throw(r.Ball, s)
	case !r.Ok:
		return outcome{}
	case len(r.Alts) == 0:
		return k(s)
	}
	var clauses []api.Clause
	for _, alt := range r.Alts {
		c, _ := base.Clause(alt)
		clauses = append(clauses, c)
	}
	return m.tried(g, clauses, s, k)
}
