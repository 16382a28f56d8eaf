package thread_test

import (
	"strings"
	"testing"

	"pythia/api"
)

// P21.1: what is asked for, with each kind of a reply, and what comes of it.
func TestTalk(t *testing.T) {
	const program = `p(1). p(2). static(X) :- p(X).
		fill :- assertz(d(1)), assertz((d(X) :- p(X), !)), asserta(d(0)).
		gone :- retract(d(X)), fail. gone.`
	for _, c := range []struct {
		goal, last string
		talk       []string
	}{
		{`static(X)`, `yes static(1)`, nil},
		{`assertz(d(X, Y, X))`, `yes assertz(d(_1,_2,_1))`, []string{`assertz(d(_1,_2,_1)) = yes`}},
		{`(Y = f(Z), assertz(d(X, Y, X)))`, `yes ','(=(f(_1),f(_1)),assertz(d(_2,f(_1),_2)))`, []string{`assertz(d(_1,f(_2),_1)) = yes`}},
		{`nobody(X)`, `ball error(existence_error(procedure,/(nobody,1)),[])`, []string{`nobody(_1) = ball error(existence_error(procedure,/(nobody,1)),[])`}},
		{`catch(nobody(X), error(E, _), true)`, `yes catch(nobody(_1),error(existence_error(procedure,/(nobody,1)),[]),true)`, []string{`nobody(_1) = ball error(existence_error(procedure,/(nobody,1)),[])`}},
		{`(retract(d(X)) ; p(X))`, `yes ;(retract(d(1)),p(1))`, []string{`retract(d(_1)) = no`}},
		{`retract(d(X))`, `no`, []string{`retract(d(_1)) = no`}},
		{`(fill, d(X), X > 0)`, `yes ','(fill,','(d(1),>(1,0)))`, []string{
			`assertz(d(1)) = yes`, `assertz(:-(d(_1),','(p(_1),!))) = yes`, `asserta(d(0)) = yes`, `d(_1) = :-(d(0),true); :-(d(1),true); :-(d(_1),','(p(_1),!))`}},
		{`(fill, d(2))`, `yes ','(fill,d(2))`, []string{
			`assertz(d(1)) = yes`, `assertz(:-(d(_1),','(p(_1),!))) = yes`, `asserta(d(0)) = yes`, `d(2) = :-(d(0),true); :-(d(1),true); :-(d(_1),','(p(_1),!))`}},
		{`(assertz(d(1)), assertz(d(2)), gone, d(X))`, `yes ','(assertz(d(1)),','(assertz(d(2)),','(gone,d(2))))`, []string{
			`assertz(d(1)) = yes`, `assertz(d(2)) = yes`, `retract(d(_1)) = retract(d(1))`, `d(_1) = :-(d(2),true)`}},
		{`(assertz(d(1)), gone, d(X))`, `no`, []string{`assertz(d(1)) = yes`, `retract(d(_1)) = retract(d(1))`, `d(_1) = no`}},
		{`(assertz(d(1)), clause(d(X), B), call(B))`, `yes ','(assertz(d(1)),','(clause(d(1),true),call(true)))`, []string{`assertz(d(1)) = yes`, `clause(d(_1),_2) = clause(d(1),true)`}},
		{`(thread_self(X), out(X), out(f(Y, X, Z, Y)))`, `yes ','(thread_self(1),','(out(1),out(f(_1,1,_2,_1))))`, []string{`thread_self(_1) = thread_self(1)`, `out(1) = yes`, `out(f(_1,1,_2,_1)) = yes`}},
		{`thread_self(2)`, `no`, []string{`thread_self(2) = thread_self(1)`}},
		{`(p(X), out(X), fail)`, `no`, []string{`out(1) = yes`, `out(2) = yes`}},
		{`(p(X), thread_join(X, S))`, `ball error(permission_error(join,thread,1),[])`, []string{`thread_join(1,_1) = ball error(permission_error(join,thread,1),[])`}},
		{`assertz((a :- 3))`, `ball error(type_error(callable,:-(a,3)),[])`, []string{`assertz(:-(a,3)) = ball error(type_error(callable,:-(a,3)),[])`}},
		{`\+ nobody`, `ball error(existence_error(procedure,/(nobody,0)),[])`, []string{`nobody = ball error(existence_error(procedure,/(nobody,0)),[])`}},
		{`(\+ retract(d) -> out(yes) ; out(no))`, `yes ;(->(\+(retract(d)),out(yes)),out(no))`, []string{`retract(d) = no`, `out(yes) = yes`}},
	} {
		k, xs := threadsOf(t, program, c.goal)
		runOver(t, k, 1, xs[0])
		var want []string
		for _, e := range c.talk {
			want = append(want, `1 `+e)
		}
		talk := xs[0].Talk()
		if got := entryTexts(talk); got != strings.Join(want, "\n") || lineText(xs[0].Last()) != c.last {
			t.Errorf("%s: %s, not %s; asked for\n%s\nnot\n%s", c.goal, lineText(xs[0].Last()), c.last, got, strings.Join(want, "\n"))
		}
		for i, e := range talk {
			if e.Pick != i {
				t.Errorf("%s: place %d of entry %d", c.goal, e.Pick, i)
			}
		}
		isRuled(t, xs[0], clauses(t, program), goalOf(t, c.goal), api.Term{})
	}
}

// P21.1: the program is the machine's own, ahead of what the kernel has: it is asked for nothing that the program has, and that the machine does itself.
func TestOwnProgram(t *testing.T) {
	k, xs := threadsOf(t, `out(X) :- X = 1. assertz(_). p(2).`, `(out(X), assertz(p(1)), p(Y), Z is X + Y, copy_term(Z, W), call(p, Y), thread_self(T))`, `(assertz(p(7)), p(X))`)
	does(t, k, 2, `assertz(p(1))`, `yes`)
	was := k.Len()
	runOver(t, k, 1, xs[0])
	if got := entryTexts(xs[0].Talk()); got != `1 thread_self(_1) = thread_self(1)` || k.Len() != was+2 || k.Lines(1) != nil {
		t.Errorf("asked for %s", got)
	}
	if got := lineText(xs[0].Last()); got != `yes ','(out(1),','(assertz(p(1)),','(p(2),','(is(3,+(1,2)),','(copy_term(3,3),','(call(p,2),thread_self(1)))))))` {
		t.Errorf("%s", got)
	}
	runOver(t, k, 2, xs[1])
	if got := lineText(xs[1].Last()); got != `yes ','(assertz(p(7)),p(2))` || xs[1].Talk() != nil {
		t.Errorf("%s, asked for %s", got, entryTexts(xs[1].Talk()))
	}
}

// P21.1: nothing behind the first answer is asked for.
func TestFirstAnswer(t *testing.T) {
	k, xs := threadsOf(t, `p(1). p(2).`, `(p(X), out(X))`)
	runOver(t, k, 1, xs[0])
	for range 50 {
		if !xs[0].Step() {
			t.Fatal("goes on")
		}
	}
	if lineText(xs[0].Last()) != `yes ','(p(1),out(1))` || len(xs[0].Talk()) != 1 || len(k.Lines(1)) != 1 {
		t.Errorf("%s\n%s", lineText(xs[0].Last()), entryTexts(xs[0].Talk()))
	}
}

// P21.1: what threads of one kernel tell one another, each with a program of its own.
func TestTwoPrograms(t *testing.T) {
	k := kernelOf(t, goalOf(t, `(go(X), message_queue_create(Q), thread_get_message(Q, m(Y)), thread_join(2, S))`), goalOf(t, `(go(X), thread_send_message(1, X), throw(done(X)))`))
	one := made(t, k, 1, clauses(t, `go(one).`), roomyLimits())
	two := made(t, k, 2, clauses(t, `go(m(Z)).`), roomyLimits())
	run(t, k, 1, one)
	states(t, k, 2, 1)
	runOver(t, k, 2, two)
	runOver(t, k, 1, one)
	if got := lineText(one.Last()); got != `yes ','(go(one),','(message_queue_create(1),','(thread_get_message(1,m(_1)),thread_join(2,exception(done(m(_2)))))))` {
		t.Errorf("%s", got)
	}
	if got := lineText(two.Last()); got != `ball done(m(_1))` {
		t.Errorf("%s", got)
	}
	want := "1 message_queue_create(_1) = message_queue_create(1)\n1 thread_get_message(1,m(_1)) = thread_get_message(1,m(_1))\n1 thread_join(2,_1) = thread_join(2,exception(done(m(_1))))"
	if got := entryTexts(one.Talk()); got != want {
		t.Errorf("%s", got)
	}
	if got := entryTexts(two.Talk()); got != `2 thread_send_message(1,m(_1)) = yes` {
		t.Errorf("%s", got)
	}
}

// P21.1: the greatest replies that a kernel has are told to the machine, and are right for it.
func TestGreatestReplies(t *testing.T) {
	for _, u := range []api.Term{tower(at("a"), "s", 90), tower(va(1), "s", 91), sized(1980, at("a")), sized(1986, va(1))} {
		k := kernelOf(t, co("thread_get_message", nu(1), va(9)), at("main"))
		does(t, k, 2, `message_queue_create(Q)`, `message_queue_create(1)`)
		j := k.Begin(2, co("thread_send_message", nu(1), co("f", u)))
		if j == nil || !j.Step() || !j.Reply().Ok {
			t.Fatal("no message")
		}
		x := made(t, k, 1, nil, roomyLimits())
		runOver(t, k, 1, x)
		if got, want := lineText(x.Last()), `yes `+termText(co("thread_get_message", nu(1), co("f", u))); got != want {
			t.Errorf("%.100s, not %.100s", got, want)
		}
	}
	for _, u := range []api.Term{tower(at("a"), "s", 94), sized(1989, va(1))} {
		k := kernelOf(t, co("thread_join", nu(2), va(1)), co("throw", u))
		one, two := made(t, k, 1, nil, roomyLimits()), made(t, k, 2, nil, roomyLimits())
		run(t, k, 1, one)
		runOver(t, k, 2, two)
		runOver(t, k, 1, one)
		if got, want := lineText(one.Last()), `yes `+termText(co("thread_join", nu(2), co("exception", u))); got != want {
			t.Errorf("%.100s, not %.100s", got, want)
		}
	}
}
