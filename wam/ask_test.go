package wam_test

import (
	"strings"
	"testing"

	"pythia/api"
	"pythia/wam"
)

// P19.1: a goal that nobody here does is asked for, as it is now and renamed, with each kind of a reply.
func TestReplies(t *testing.T) {
	tells(t, ``, `u`, `ask u; yes u; no`, `yes`)
	tells(t, ``, `u`, `ask u; no`, `no`)
	tells(t, ``, `u`, `ask u; ball b`, `ball b`)
	tells(t, ``, `u`, `ask u; yes u; no`, `u.`)
	tells(t, ``, `u(X, Y, X)`, `ask u(_1,_2,_1); yes u(_1,_2,_1); no`, `yes`)
	tells(t, ``, `(Y = f(Z, X), X = 1, u(X, Y, Z))`, `ask u(1,f(_1,1),_1); yes ','(=(f(_1,1),f(_1,1)),','(=(1,1),u(1,f(_1,1),_1))); no`, `yes`)
	tells(t, ``, `(u(X), v(X))`, `ask u(_1); ask v(1); ask v(2); yes ','(u(2),v(2)); no`, `u(1). u(2).`, `no`, `yes`)
	tells(t, ``, `(u(X) ; v(X))`, `ask u(_1); ask v(_1); yes ;(u(3),v(3)); no`, `no`, `v(3).`)
	tells(t, ``, `\+ u(X)`, `ask u(_1); yes \+(u(_1)); no`, `no`)
	tells(t, ``, `\+ u(X)`, `ask u(_1); no`, `yes`)
	tells(t, ``, `\+ u(X)`, `ask u(_1); no`, `u(1). u(2).`)
	tells(t, ``, `(u(X) -> v(X) ; w(X))`, `ask u(_1); ask v(1); yes ;(->(u(1),v(1)),w(1)); no`, `u(1). u(2).`, `yes`)
	tells(t, ``, `(u(X) -> v(X) ; w(X))`, `ask u(_1); ask w(_1); no`, `no`, `no`)
	tells(t, facts, `(p(X), u(X))`, `ask u(1); ask u(2); yes ','(p(2),u(2)); ask u(3); no`, `no`, `yes`, `no`)
	// A predicate of another arity is another one.
	tells(t, facts, `p(X, Y)`, `ask p(_1,_2); no`, `no`)
	tells(t, facts, `p`, `ask p; no`, `no`)
	tells(t, facts, `p = X`, `yes =(p,p); no`)
	for goal := range strings.FieldsSeq(`','(a) ','(a,b,c) ;(a) ->(a) \+(a,b) !(a) catch(a,b) catch(a,b,c,d) throw throw(a,b) =(a) true(a) call ':'(foo,bar) :-(a,b) is(a) '$goal'(a) [] [a] {} {a}`) {
		g := goalOf(t, goal)
		tells(t, ``, goal, `ask `+termText(g)+`; no`, `no`)
	}
}

// P19.1: alternatives are clauses that are tried as the program's: in order, with bodies and cuts, each renamed; those of other goals fail.
func TestAlternatives(t *testing.T) {
	tells(t, ``, `u(X)`, `ask u(_1); yes u(1); yes u(2); yes u(1); no`, `u(1). u(2). u(1).`)
	tells(t, ``, `u(2)`, `ask u(2); yes u(2); no`, `u(1). u(2). u(3).`)
	tells(t, ``, `u(X)`, `ask u(_1); no`, `v(1). u(1, 2). u. 'U'(1).`)
	tells(t, ``, `u(X)`, `ask u(_1); yes u(2); yes u(4); no`, `v(1). u(2). u(3, 3). u(4). u.`)
	tells(t, ``, `u(f(X, Y))`, `ask u(f(_1,_2)); yes u(f(1,_1)); yes u(f(_1,_1)); no`, `u(f(1, Y)). u(g(1, 1)). u(f(X, X)).`)
	tells(t, ``, `u(X, X)`, `ask u(_1,_1); yes u(f(_1),f(_1)); no`, `u(A, f(B)). u(A, f(A)) :- A = 1, fail. u(A, g(A)).`)
	tells(t, ``, `u(X)`, `ask u(_1); yes u(_1); no`, `u(X).`)
	tells(t, facts, `u(X)`, `ask u(_1); yes u(2); yes u(3); yes u(9); no`, `u(X) :- q(X). u(9).`)
	tells(t, facts, `u(X)`, `ask u(_1); yes u(1); no`, `u(X) :- p(X), !. u(9).`)
	tells(t, facts, `(p(Y), u(X))`, `ask u(_1); yes ','(p(1),u(1)); ask u(_1); yes ','(p(2),u(2)); ask u(_1); no`, `u(X) :- p(X), !. u(9).`, `u(2). v(X).`, `no`)
	tells(t, facts, `u(X)`, `ask u(_1); no`, `u(X) :- !, fail. u(9).`)
	tells(t, facts, `u(X)`, `ask u(_1); ball x`, `u(X) :- throw(x). u(9).`)
	tells(t, facts, `u(X)`, `ask u(_1); ask v(_1); yes u(7); ask w; no`, `u(X) :- v(X). u(8) :- w.`, `v(7).`, `no`)
	tells(t, facts, `u(X)`, `ask u(_1); ball `+inst, `u(X) :- X.`)
	tells(t, facts, `u(X)`, `ask u(_1); yes u(1); no`, `u(X) :- (X = 1 ; X = 2), !. u(3).`)
	tells(t, ``, `u((a :- b))`, `ask u(:-(a,b)); yes u(:-(a,b)); no`, `u(X) :- true.`)
	// An alternative of the form :-(H, B) is a clause of H.
	tells(t, ``, `:-(a, b)`, `ask :-(a,b); no`, `a :- b.`)
	tells(t, ``, `:-(a, b)`, `ask :-(a,b); yes :-(a,b); no`, `:-(a, X) :- X = b.`)
	// A program's goals aren't told by replies.
	tells(t, facts, `(u(X), p(X))`, `ask u(_1); no`, `p(X). p(1).`)
	// Many.
	var all []string
	for i := range 300 {
		all = append(all, `u(`+termText(nu(int64(i)))+`, `+termText(nu(int64(i%100)))+`).`)
	}
	tells(t, ``, `u(X, 42)`, `ask u(_1,42); yes u(42,42); yes u(142,42); yes u(242,42); no`, strings.Join(all, ` `))
}

// P19.1: while it waits, Run tells the EvAsk again; what it has bound stays.
func TestWaiting(t *testing.T) {
	m := loaded(t, facts, `(p(X), u(X, Y))`)
	if e := m.Reply(api.Reply{Ok: true}); e != api.ErrArg {
		t.Errorf("Reply ahead of an EvAsk = %d", e)
	}
	var e api.Event
	for e.Kind == api.EvNone {
		e = m.Run(1)
	}
	for _, steps := range []int{1, 0, -1, -1 << 63, 1<<63 - 1, 100} {
		if again := m.Run(steps); eventText(again) != `ask u(1,_1)` || !sameEvent(e, again) || m.Over() {
			t.Errorf("Run(%d) = %s", steps, eventText(again))
		}
	}
	if e := m.Reply(api.Reply{Ok: true}); e != api.OK || m.Over() {
		t.Errorf("Reply = %d", e)
	}
	if e := m.Reply(api.Reply{Ok: true}); e != api.ErrArg {
		t.Errorf("a second Reply = %d", e)
	}
	if e := m.Run(0); e.Kind != api.EvNone {
		t.Errorf("Run(0) = %s", eventText(e))
	}
	if got := told(t, m, `u(A, B) :- A = B.`, `no`); got != `yes ','(p(1),u(1,_1)); ask u(2,_1); yes ','(p(2),u(2,2)); ask u(3,_1); no` {
		t.Error(got)
	}
}

// P19.1: Reply's errors, in their order; nothing has changed then.
func TestReplyErrors(t *testing.T) {
	replyArg(t, loaded(t, ``, `u`), "a new machine")
	for _, goal := range []string{`true`, `fail`, `throw(a)`, `p(X)`} {
		m := loaded(t, facts, goal)
		m.Run(100)
		replyArg(t, m, goal)
	}
	m := machine(t, nil, at("u"), api.Limits{})
	m.Run(100)
	m = loaded(t, facts, `(p(X), u(X))`)
	m.Run(100)
	for name, w := range wrong() {
		replies(t, m, name, api.Reply{Ok: true, Alts: []api.Term{w}}, api.ErrClause)
		replies(t, m, name, api.Reply{Ok: true, Alts: append(terms(t, `u(1). u(2) :- a.`), w, at("u"))}, api.ErrClause)
		if w.Kind != 0 {
			replies(t, m, name, api.Reply{Ball: w}, api.ErrTerm)
			replies(t, m, name, api.Reply{Ok: true, Ball: w}, api.ErrTerm)
			replies(t, m, name, api.Reply{Ok: true, Ball: w, Alts: []api.Term{w, nu(3)}}, api.ErrTerm)
		}
	}
	for _, text := range []string{`7.`, `X.`, `:-(7, a).`, `:-(X, a).`, `:-(a, 7).`, `:-(u(1), -1).`, `u(1). u(2). 3.`} {
		replies(t, m, text, api.Reply{Ok: true, Alts: terms(t, text)}, api.ErrClause)
	}
	// Terms that are right, whose clauses aren't.
	replies(t, m, "a deep fact", api.Reply{Ok: true, Alts: []api.Term{tower(at("u"), "u", 99)}}, api.ErrClause)
	replies(t, m, "a great fact", api.Reply{Ok: true, Alts: []api.Term{sized(1999, at("a"))}}, api.ErrClause)
	if got := told(t, m, `no`, `yes`, `ball x`); got != `ask u(1); ask u(2); yes ','(p(2),u(2)); ask u(3); ball x` {
		t.Error(got)
	}
	// What isn't looked at: alternatives of a reply that isn't Ok, or that has a ball.
	m = loaded(t, facts, `(p(X), u(X))`)
	m.Run(100)
	replies(t, m, "not Ok", api.Reply{Alts: []api.Term{{}, nu(3)}}, api.OK)
	m.Run(100)
	replies(t, m, "a ball", api.Reply{Ok: true, Alts: []api.Term{{}, nu(3)}, Ball: nu(5)}, api.OK)
	if got := told(t, m); got != `ball 5` {
		t.Error(got)
	}
	// As great as they may be.
	m = loaded(t, ``, `(u(X), u(Y), u(Z))`)
	m.Run(100)
	replies(t, m, "a great fact", api.Reply{Ok: true, Alts: []api.Term{co("u", sized(1996, at("a"))), co("u", tower(at("a"), "s", 97)), co("u", nu(1))}}, api.OK)
	m.Run(100)
	replies(t, m, "a great fact", api.Reply{Ok: true, Alts: []api.Term{co("u", sized(1996, at("b")))}}, api.OK)
	m.Run(100)
	replies(t, m, "a great ball", api.Reply{Ball: sized(2000, at("a"))}, api.OK)
	if e := m.Run(100); e.Kind != api.EvError || !same(e.Term, sized(2000, at("a"))) {
		t.Errorf("%.100s", eventText(e))
	}
}

// replyArg fails, if a machine takes a reply that doesn't wait for one.
func replyArg(t *testing.T, m *wam.Machine, name string) {
	t.Helper()
	for _, r := range []api.Reply{{}, {Ok: true}, {Ball: at("a")}, {Ball: co("f")}, {Ok: true, Alts: []api.Term{{}}}} {
		replies(t, m, name, r, api.ErrArg)
	}
}

// replies fails, if a reply isn't answered so.
func replies(t *testing.T, m *wam.Machine, name string, r api.Reply, want api.Errno) {
	t.Helper()
	if e := m.Reply(r); e != want {
		t.Errorf("%s: Reply(%v, %d, %d) = %d, not %d", name, r.Ok, len(r.Alts), r.Ball.Kind, e, want)
	}
}
