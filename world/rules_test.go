package world_test

import (
	"slices"
	"testing"

	"pythia/api"
	"pythia/arith"
	"pythia/base"
	"pythia/pure"
	"pythia/term"
	"pythia/world"
)

// rules does a goal as chapter 19's words do, on plain terms, up to its first answer, fed with what was replied: what comes behind a goal is done within it, so that going back is going out.
type rules struct {
	program  []api.Clause
	talk     []api.Entry
	budget   int // how many goals may be done
	asks     []api.Term
	last     api.Line // what it has come to; nothing, if there was no reply any more
	beyond   bool     // a term was too great, or the budget is used up: it may come to anything
	solution map[int64]api.Term
	bound    []int64 // the variables that have a solution, in order
	greatest int64   // the greatest variable that was ever used
}

// outcome is how doing goals ended.
type outcome struct {
	kind outcomeKind
	of   *fence   // of a cut
	by   *guard   // of a ball: who has it first
	ball api.Term // of a ball, renamed
}

type outcomeKind int

const (
	failed outcomeKind = iota
	cut                // failed, and with it all choices behind the fence
	thrown
	ended // there is nothing more to tell
)

// fence is a place that a cut goes back to; guard a catch that is under way.
type (
	fence struct{ _ int }
	guard struct{ outer *guard }
)

// then is what comes behind a goal.
type then func(by *guard) outcome

// ruled is what the rules say of a program and a goal, fed with replies.
func ruled(program []api.Clause, goal api.Term, talk []api.Entry, budget int) *rules {
	m := &rules{program: program, talk: talk, budget: budget, solution: map[int64]api.Term{}}
	g := m.renamed(goal)
	o := m.do(g, nil, func(*guard) outcome {
		if answer, ok := m.right(g); ok {
			m.last = api.Line{Kind: api.EvAnswer, Term: renamed(answer)}
		}
		return outcome{kind: ended}
	})
	switch o.kind {
	case failed:
		m.last = api.Line{Kind: api.EvFail}
	case thrown:
		m.last = api.Line{Kind: api.EvError, Term: o.ball}
	}
	return m
}

// renamed is a term whose variables are 1, 2, .. in the order in which they stand in it.
func renamed(t api.Term) api.Term {
	own, _, _ := term.Rename(t, 1)
	return own
}

// renamed is a term with new variables.
func (m *rules) renamed(t api.Term) api.Term {
	own, next, _ := term.Rename(t, m.greatest+1)
	m.greatest = max(m.greatest, next-1)
	return own
}

// resolved is a term as it is now, with at most so many symbols.
func (m *rules) resolved(t api.Term, room *int) api.Term {
	*room--
	t = m.walked(t)
	if t.Kind != api.Comp || *room < 0 {
		return t
	}
	var args []api.Term
	for _, arg := range t.Args {
		args = append(args, m.resolved(arg, room))
	}
	return co(t.Name, args...)
}

// right is a term as it is now; if that isn't right, it is beyond what the rules tell.
func (m *rules) right(t api.Term) (api.Term, bool) {
	room := 5000
	now := m.resolved(t, &room)
	if term.Check(now) != api.OK {
		m.beyond = true
		return api.Term{}, false
	}
	return now, true
}

// back takes back what has been bound behind so many.
func (m *rules) back(bound int) {
	for _, v := range m.bound[bound:] {
		delete(m.solution, v)
	}
	m.bound = m.bound[:bound]
}

func (m *rules) walked(t api.Term) api.Term {
	for t.Kind == api.Var {
		to, ok := m.solution[t.Int]
		if !ok {
			break
		}
		t = to
	}
	return t
}

// unify makes two terms the same, or nothing more than a part of them.
func (m *rules) unify(a, b api.Term) bool {
	a, b = m.walked(a), m.walked(b)
	switch {
	case a.Kind == api.Var && b.Kind == api.Var && a.Int == b.Int:
		return true
	case a.Kind == api.Var:
		return m.bind(a.Int, b)
	case b.Kind == api.Var:
		return m.bind(b.Int, a)
	case a.Kind != b.Kind || a.Name != b.Name || a.Int != b.Int:
		return false
	}
	return slices.EqualFunc(a.Args, b.Args, m.unify)
}

func (m *rules) bind(v int64, t api.Term) bool {
	if m.within(v, t) {
		return false
	}
	m.solution[v] = t
	m.bound = append(m.bound, v)
	return true
}

// within tells whether a variable stands in a term.
func (m *rules) within(v int64, t api.Term) bool {
	t = m.walked(t)
	return t.Kind == api.Var && t.Int == v || slices.ContainsFunc(t.Args, func(arg api.Term) bool { return m.within(v, arg) })
}

// fenced is what comes of goals behind a fence: a cut to it is no more than failure.
func fenced(f *fence, o outcome) outcome {
	if o.kind == cut && o.of == f {
		return outcome{}
	}
	return o
}

// cutTo goes on without the choices behind a fence.
func cutTo(f *fence, by *guard, k then) outcome {
	o := k(by)
	if o.kind == failed {
		return outcome{kind: cut, of: f}
	}
	return o
}

// either does one thing, then, if it fails, another one.
func (m *rules) either(by *guard, one, other then) outcome {
	was := len(m.bound)
	if o := one(by); o.kind != failed {
		return o
	}
	m.back(was)
	return other(by)
}

func never(*guard) outcome { return outcome{} }

// body does a body, as it is written, whose cuts go back to a fence.
func (m *rules) body(t api.Term, f *fence, by *guard, k then) outcome {
	p, _ := base.Of(t)
	part := func(t api.Term, k then) then { return func(by *guard) outcome { return m.body(t, f, by, k) } }
	switch p {
	case api.Pred{Name: "!"}:
		return cutTo(f, by, k)
	case api.Pred{Name: ",", Arity: 2}:
		return m.body(t.Args[0], f, by, part(t.Args[1], k))
	case api.Pred{Name: "->", Arity: 2}:
		return m.condition(t.Args[0], by, part(t.Args[1], k), never)
	case api.Pred{Name: `\+`, Arity: 1}:
		return m.condition(t.Args[0], by, never, k)
	case api.Pred{Name: ";", Arity: 2}:
		if c, _ := base.Of(t.Args[0]); c == (api.Pred{Name: "->", Arity: 2}) {
			return m.condition(t.Args[0].Args[0], by, part(t.Args[0].Args[1], k), part(t.Args[1], k))
		}
		return m.either(by, part(t.Args[0], k), part(t.Args[1], k))
	}
	now, ok := m.right(t)
	if !ok {
		return outcome{kind: ended}
	}
	return m.do(now, by, k)
}

// condition does one thing, if a condition comes true, else another one.
func (m *rules) condition(c api.Term, by *guard, one, other then) outcome {
	all, own := &fence{}, &fence{}
	return fenced(all, m.either(by, func(by *guard) outcome {
		return fenced(own, m.body(c, own, by, func(by *guard) outcome { return cutTo(all, by, one) }))
	}, other))
}

// do does a goal, as it is now.
func (m *rules) do(g api.Term, by *guard, k then) outcome {
	if m.budget--; m.budget < 0 {
		m.beyond = true
		return outcome{kind: ended}
	}
	p, ok := base.Of(g)
	var own []api.Clause
	for _, c := range m.program {
		if head, _ := base.Of(c.Head); ok && head == p {
			own = append(own, c)
		}
	}
	switch {
	case !ok || p.Arity == 2 && (p.Name == "," || p.Name == ";" || p.Name == "->") || p == api.Pred{Name: `\+`, Arity: 1} || p == api.Pred{Name: "!"}:
		return m.call(g, by, k)
	case p == api.Pred{Name: "throw", Arity: 1}:
		if g.Args[0].Kind == api.Var {
			return thrownBall(arith.Fault("instantiation_error"), by)
		}
		return thrownBall(g.Args[0], by)
	case p == api.Pred{Name: "catch", Arity: 3}:
		return m.catch(g, by, k)
	case p.Name == "call" && p.Arity > 0:
		return m.callMore(g.Args[0], g.Args[1:], by, k)
	case pure.Knows(p):
		return m.pure(g, by, k)
	case own != nil:
		return m.tried(g, own, by, k)
	}
	return m.asked(g, by, k)
}

// call does a goal, as it is now, as by call.
func (m *rules) call(g api.Term, by *guard, k then) outcome {
	switch g.Kind {
	case api.Var:
		return thrownBall(arith.Fault("instantiation_error"), by)
	case api.Num:
		return thrownBall(arith.Fault("type_error", at("callable"), g), by)
	}
	f := &fence{}
	return fenced(f, m.body(g, f, by, k))
}

func (m *rules) callMore(g api.Term, more []api.Term, by *guard, k then) outcome {
	if g.Kind >= api.Atom && len(more) > 0 {
		args := slices.Concat(g.Args, more)
		if len(args) > api.MaxArity {
			return thrownBall(arith.Fault("representation_error", at("max_arity")), by)
		}
		var ok bool
		if g, ok = m.right(co(g.Name, args...)); !ok {
			return outcome{kind: ended}
		}
	}
	return m.call(g, by, k)
}

func thrownBall(ball api.Term, by *guard) outcome {
	return outcome{kind: thrown, by: by, ball: renamed(ball)}
}

func (m *rules) catch(g api.Term, by *guard, k then) outcome {
	mine := &guard{by}
	was := len(m.bound)
	o := m.call(g.Args[0], mine, func(*guard) outcome { return k(by) })
	if o.kind != thrown || o.by != mine {
		return o
	}
	m.back(was)
	if !m.unify(g.Args[1], m.renamed(o.ball)) {
		m.back(was)
		return thrownBall(o.ball, by)
	}
	recovery, ok := m.right(g.Args[2])
	if !ok {
		return outcome{kind: ended}
	}
	return m.call(recovery, by, k)
}

// pure does a goal of layer 17: its variables are told by their places in the goal, new ones come behind all that there are.
func (m *rules) pure(g api.Term, by *guard, k then) outcome {
	out, known := pure.Do(renamed(g))
	if !known {
		m.beyond = true
		return outcome{kind: ended}
	}
	if out.Ball.Kind != 0 {
		return thrownBall(out.Ball, by)
	}
	own := term.Vars(g)
	above := m.greatest - int64(len(own))
	meant := func(t api.Term) api.Term {
		var binds []api.Bind
		for _, v := range term.Vars(t) {
			to := above + v
			if v <= int64(len(own)) {
				to = own[v-1]
			}
			m.greatest = max(m.greatest, to)
			binds = append(binds, api.Bind{Var: v, To: va(to)})
		}
		u, _ := term.Apply(t, binds)
		return u
	}
	for i := range out.Left {
		if !m.unify(meant(out.Left[i]), meant(out.Right[i])) {
			return outcome{}
		}
	}
	if !out.Ok {
		return outcome{}
	}
	return k(by)
}

// tried tries clauses in order.
func (m *rules) tried(g api.Term, clauses []api.Clause, by *guard, k then) outcome {
	f := &fence{}
	for _, c := range clauses {
		was := len(m.bound)
		own := m.renamed(base.Term(c))
		if m.unify(g, own.Args[0]) {
			if o := m.body(own.Args[1], f, by, k); o.kind != failed {
				return fenced(f, o)
			}
		}
		m.back(was)
	}
	return outcome{}
}

// asked asks for a goal.
func (m *rules) asked(g api.Term, by *guard, k then) outcome {
	i := len(m.asks)
	m.asks = append(m.asks, renamed(g))
	if i >= len(m.talk) {
		return outcome{kind: ended}
	}
	r := m.talk[i].Reply
	var alts []api.Clause
	for _, alt := range r.Alts {
		c, _ := base.Clause(alt)
		alts = append(alts, c)
	}
	switch {
	case r.Ball.Kind != 0:
		return thrownBall(r.Ball, by)
	case !r.Ok:
		return outcome{}
	case len(alts) == 0:
		return k(by)
	}
	return m.tried(g, alts, by, k)
}

// isRuled fails, if a thread of a world doesn't tell what the rules say of its program and goal, fed with what it was told: all of it, if it is over, else a beginning of it, and what it asks for now. It answers false, if that goes beyond what the rules can tell here.
func isRuled(t testing.TB, w *world.World, n int, program []api.Clause, goal api.Term) bool {
	t.Helper()
	talk, last, asked := w.Talk(n), w.Last(n), w.Asks(n)
	m := ruled(program, goal, talk, 3000)
	for i, e := range talk[:min(len(talk), len(m.asks))] {
		if !same(e.Ask, m.asks[i]) || e.Pick != i || e.Thread != n {
			t.Fatalf("%s: asked for %s, not %s, behind\n%s", termText(goal), termText(e.Ask), termText(m.asks[i]), entryTexts(talk[:i]))
		}
	}
	switch {
	case m.beyond:
		return false
	case len(m.asks) < len(talk):
		t.Fatalf("%s: asked for\n%s\nbut by the rules only %d times", termText(goal), entryTexts(talk), len(m.asks))
	case last.Kind != 0 && last.Kind != api.EvLimit && !sameLine(last, m.last):
		t.Fatalf("%s: %s, not %s, behind\n%s", termText(goal), lineText(last), lineText(m.last), entryTexts(talk))
	case asked.Kind != 0 && (len(m.asks) != len(talk)+1 || !same(m.asks[len(talk)], asked)):
		t.Fatalf("%s: asks for %s, not as the rules say, behind\n%s", termText(goal), termText(asked), entryTexts(talk))
	}
	return true
}
