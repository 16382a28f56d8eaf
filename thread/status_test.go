package thread_test

import (
	"testing"

	"pythia/api"
)

// comesTo fails, if a thread with a goal doesn't end with such an event and such a status.
func comesTo(t *testing.T, program []api.Clause, goal api.Term, l api.Limits, last, status string) {
	t.Helper()
	k := kernelOf(t, goal, at("main"))
	x := made(t, k, 1, program, l)
	runOver(t, k, 1, x)
	if got := lineText(x.Last()); got != last {
		t.Errorf("%.100s: the last event is %.200s, not %.200s", termText(goal), got, last)
	}
	if got := statusOf(t, k, 1); got != status {
		t.Errorf("%.100s: the status is %.200s, not %.200s", termText(goal), got, status)
	}
	if log := k.Log(); log[len(log)-1].Ask.Name != "$end" || len(log) != len(x.Talk())+1 {
		t.Errorf("%.100s: noted is %s", termText(goal), entryTexts(log))
	}
	does(t, k, 2, `thread_join(1, S)`, `thread_join(1,`+status+`)`)
	if got := lineText(x.Last()); got != last || !x.Over() || !x.Step() {
		t.Errorf("%.100s: once it is gone, its last event is %.200s", termText(goal), got)
	}
}

// P21.1: each status, of each kind of an event.
func TestStatus(t *testing.T) {
	const program = `p(1). p(2). q(X) :- p(X), X > 1. n(s(X)) :- n(X).`
	for _, c := range []struct {
		goal, last, status string
	}{
		{`true`, `yes true`, `true`},
		{`p(X)`, `yes p(1)`, `true`},
		{`q(X)`, `yes q(2)`, `true`},
		{`(q(X), Y = f(Z, X, Z))`, `yes ','(q(2),=(f(_1,2,_1),f(_1,2,_1)))`, `true`},
		{`p(3)`, `no`, `false`},
		{`fail`, `no`, `false`},
		{`throw(a)`, `ball a`, `exception(a)`},
		{`throw(f(Y, X, Y))`, `ball f(_1,_2,_1)`, `exception(f(_1,_2,_1))`},
		{`(p(X), throw(X))`, `ball 1`, `exception(1)`},
		{`throw(true)`, `ball true`, `exception(true)`},
		{`throw(_)`, `ball error(instantiation_error,[])`, `exception(error(instantiation_error,[]))`},
		{`X is foo + 1`, `ball error(type_error(evaluable,/(foo,0)),[])`, `exception(error(type_error(evaluable,/(foo,0)),[]))`},
		{`throw(exception(limit(heap)))`, `ball exception(limit(heap))`, `exception(exception(limit(heap)))`},
		{`n(X)`, `limit resource_error(heap)`, `limit(heap)`},
		{`thread_self(X)`, `yes thread_self(1)`, `true`},
		{`nobody`, `ball error(existence_error(procedure,/(nobody,0)),[])`, `exception(error(existence_error(procedure,/(nobody,0)),[]))`},
		{`thread_peek_message(1, X)`, `ball error(existence_error(message_queue,1),[])`, `exception(error(existence_error(message_queue,1),[]))`},
	} {
		comesTo(t, clauses(t, program), goalOf(t, c.goal), roomyLimits(), c.last, c.status)
	}
}

// P21.1: limit(W) with each W.
func TestLimitStatus(t *testing.T) {
	program := clauses(t, `p(1). p(2). p(3).`)
	comesTo(t, program, goalOf(t, `p(X)`), api.Limits{Heap: 100, Trail: 100}, `limit resource_error(stack)`, `limit(stack)`)
	comesTo(t, program, goalOf(t, `X = a`), api.Limits{Heap: 100, Stack: 100}, `limit resource_error(trail)`, `limit(trail)`)
	comesTo(t, program, goalOf(t, `p(X)`), api.Limits{Stack: 100, Trail: 100}, `limit resource_error(heap)`, `limit(heap)`)
	great := co(",", co("=", va(1), sized(1500, at("a"))), co("=", va(2), co("f", va(1), va(1))))
	comesTo(t, program, great, roomyLimits(), `limit resource_error(term)`, `limit(term)`)
	double := co(",", co("=", va(1), tower(at("a"), "f", 90)), co("call", co("=", va(2), tower(va(1), "f", 20))))
	comesTo(t, program, double, roomyLimits(), `limit resource_error(term)`, `limit(term)`)
}

// P21.1: a status that layer 20 refuses is limit(term); the last event stays what it is.
func TestRefusedStatus(t *testing.T) {
	for depth := 85; depth <= 99; depth++ {
		ball := tower(at("a"), "f", depth-1) // of this depth; with exception(..) around it one more
		status := termText(co("exception", ball))
		if depth+1 > api.MaxDepth-4 {
			status = `limit(term)`
		}
		comesTo(t, nil, co("throw", ball), roomyLimits(), `ball `+termText(ball), status)
	}
	for size := 1980; size <= 1999; size++ {
		ball := sized(size, va(1))
		status := termText(co("exception", ball))
		if size+1 > api.MaxSize-10 {
			status = `limit(term)`
		}
		comesTo(t, nil, co("throw", ball), roomyLimits(), `ball `+termText(ball), status)
	}
	// Balls that are as great as may be: with exception(..) around them they are no right terms.
	program := []api.Clause{
		cl(co("b", va(1), va(2)), co(",", co("=", va(1), sized(900, at("a"))), co("=", va(2), sized(999, va(3))))),
		cl(co("c", va(1)), co("=", va(1), tower(at("a"), "f", 89))),
	}
	wide := co(",", co("b", va(1), va(2)), co("throw", co("f", sized(100, at("b")), va(1), va(2))))
	deep := co(",", co("c", va(1)), co("throw", tower(va(1), "f", 10)))
	comesTo(t, program, wide, roomyLimits(), `ball `+termText(co("f", sized(100, at("b")), sized(900, at("a")), sized(999, va(1)))), `limit(term)`)
	comesTo(t, program, deep, roomyLimits(), `ball `+termText(tower(at("a"), "f", 99)), `limit(term)`)
}
