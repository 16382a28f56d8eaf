package thread_test

import (
	"testing"

	"pythia/api"
	"pythia/kernel"
	"pythia/thread"
)

// waits fails, if a thread of the kernel's isn't blocked on this goal, or goes on all the same.
func waits(t *testing.T, k *kernel.Kernel, n int, x *thread.Thread, goal string) {
	t.Helper()
	run(t, k, n, x)
	was, talk := k.Len(), len(x.Talk())
	for range 10 {
		if x.Step() || x.Over() || !sameLine(x.Last(), api.Line{}) {
			t.Fatalf("thread %d is over", n)
		}
	}
	if k.State(n) != 2 || termText(k.Asks(n)) != goal || k.Len() != was || len(x.Talk()) != talk {
		t.Fatalf("thread %d: state %d, asks for %s, not %s", n, k.State(n), termText(k.Asks(n)), goal)
	}
}

// P21.2: the chapter's second example; a message comes, then one that fits, and the thread goes on.
func TestWaitForMessage(t *testing.T) {
	k := kernelOf(t, goalOf(t, `(thread_get_message(1, f(X)), out(X))`), at("main"))
	does(t, k, 2, `message_queue_create(Q)`, `message_queue_create(1)`)
	x := made(t, k, 1, nil, roomyLimits())
	waits(t, k, 1, x, `thread_get_message(1,f(_1))`)
	does(t, k, 2, `thread_send_message(1, g)`, `yes`)
	states(t, k, 1)
	waits(t, k, 1, x, `thread_get_message(1,f(_1))`)
	does(t, k, 2, `thread_send_message(1, f(h(A)))`, `yes`)
	states(t, k, 1)
	if x.Step() || len(x.Talk()) != 1 || k.State(1) != 1 {
		t.Fatalf("one step behind the message: %s", entryTexts(x.Talk()))
	}
	runOver(t, k, 1, x)
	if got := lineText(x.Last()); got != `yes ','(thread_get_message(1,f(h(_1))),out(h(_1)))` || entryTexts(x.Talk()) != "1 thread_get_message(1,f(_1)) = thread_get_message(1,f(h(_1)))\n1 out(h(_1)) = yes" {
		t.Errorf("%s\n%s", got, entryTexts(x.Talk()))
	}
}

// P21.2: who waits for room in a queue, for a mutex, for a thread's end, goes on when it is there; and is thrown a ball, when it never will be.
func TestWaitForOthers(t *testing.T) {
	for _, c := range []struct{ goal, asks, wake, reply, last string }{
		{`thread_send_message(1, b)`, `thread_send_message(1,b)`, `thread_get_message(1, X)`, `thread_get_message(1,a)`, `yes thread_send_message(1,b)`},
		{`mutex_lock(1)`, `mutex_lock(1)`, `mutex_unlock(1)`, `yes`, `yes mutex_lock(1)`},
		{`(mutex_lock(1) ; true)`, `mutex_lock(1)`, `mutex_unlock(1)`, `yes`, `yes ;(mutex_lock(1),true)`},
		{`thread_send_message(1, b)`, `thread_send_message(1,b)`, `message_queue_destroy(1)`, `yes`, `ball error(existence_error(message_queue,1),[])`},
		{`catch(thread_get_message(1, b), error(existence_error(A, B), _), true)`, `thread_get_message(1,b)`, `message_queue_destroy(1)`, `yes`,
			`yes catch(thread_get_message(1,b),error(existence_error(message_queue,1),[]),true)`},
	} {
		k := kernelOf(t, goalOf(t, c.goal), at("main"))
		does(t, k, 2, `message_queue_create(Q, 1)`, `message_queue_create(1,1)`)
		does(t, k, 2, `thread_send_message(1, a)`, `yes`)
		does(t, k, 2, `mutex_create(M)`, `mutex_create(1)`)
		does(t, k, 2, `mutex_lock(1)`, `yes`)
		x := made(t, k, 1, nil, roomyLimits())
		waits(t, k, 1, x, c.asks)
		does(t, k, 2, c.wake, c.reply)
		states(t, k, 1)
		runOver(t, k, 1, x)
		if got := lineText(x.Last()); got != c.last || len(x.Talk()) != 1 {
			t.Errorf("%s: %s, not %s", c.goal, got, c.last)
		}
	}
}

// P21.1: who joins is told the status, of each kind; those that wait for one another wait on.
func TestWaitToJoin(t *testing.T) {
	for goal, status := range map[string]string{
		`true`:          `true`,
		`fail`:          `false`,
		`throw(f(X))`:   `exception(f(_1))`,
		`n(X)`:          `limit(heap)`,
		`out(X)`:        `true`,
		`mutex_lock(1)`: `exception(error(existence_error(mutex,1),[]))`,
	} {
		k, xs := threadsOf(t, `n(s(X)) :- n(X).`, `thread_join(2, S)`, goal)
		waits(t, k, 1, xs[0], `thread_join(2,_1)`)
		runOver(t, k, 2, xs[1])
		states(t, k, 1, 3)
		runOver(t, k, 1, xs[0])
		states(t, k, 3, 0)
		if got := lineText(xs[0].Last()); got != `yes thread_join(2,`+status+`)` {
			t.Errorf("%s: %s, not %s", goal, got, status)
		}
	}
	k, xs := threadsOf(t, ``, `thread_join(2, S)`, `thread_join(1, S)`)
	waits(t, k, 1, xs[0], `thread_join(2,_1)`)
	waits(t, k, 2, xs[1], `thread_join(1,_1)`)
	waits(t, k, 1, xs[0], `thread_join(2,_1)`)
}

// P21.1: mutexes of a thread that is over are given back: who waits for one goes on.
func TestOverGivesBack(t *testing.T) {
	k, xs := threadsOf(t, ``, `(mutex_create(M), mutex_lock(M), throw(M))`, `(mutex_lock(1), out(mine))`)
	stepTill(t, xs[0], func() bool { return len(xs[0].Talk()) == 2 })
	waits(t, k, 2, xs[1], `mutex_lock(1)`)
	runOver(t, k, 1, xs[0])
	states(t, k, 3, 1)
	runOver(t, k, 2, xs[1])
	if got := entryTexts(xs[1].Talk()); got != "2 mutex_lock(1) = yes\n2 out(mine) = yes" {
		t.Errorf("%s", got)
	}
}

// P21.1: a thread that comes by thread_create has its goal from there on.
func TestCreated(t *testing.T) {
	k, xs := threadsOf(t, `add(N, T) :- message_queue_create(Q), thread_create(plus(Q, N, 3), T), thread_send_message(Q, 4), thread_join(T, S), out(S). plus(Q, A, B) :- thread_get_message(Q, C), D is A + B + C, throw(D).`, `add(2, T)`)
	stepTill(t, xs[0], func() bool { return k.State(2) != 0 })
	waits(t, k, 1, xs[0], `thread_join(2,_1)`)
	two := made(t, k, 2, clauses(t, `plus(Q, A, B) :- thread_get_message(Q, C), D is A + B + C, throw(D).`), roomyLimits())
	runOver(t, k, 2, two)
	runOver(t, k, 1, xs[0])
	if lineText(xs[0].Last()) != `yes add(2,2)` || len(k.Lines(1)) != 1 || termText(k.Lines(1)[0]) != `exception(9)` {
		t.Errorf("%s, %v", lineText(xs[0].Last()), k.Lines(1))
	}
}

// P1: where somebody else has a job of the kernel's thread under way, a step does nothing that is lost: what the machine has come to is done once the kernel takes it.
func TestSomebodyElsesJob(t *testing.T) {
	for goal, want := range map[string]string{`true`: `yes true`, `(true ; nobody)`: `yes ;(true,nobody)`, `fail`: `no`, `throw(a)`: `ball a`, `out(x)`: `yes out(x)`} {
		k := kernelOf(t, goalOf(t, goal))
		x := made(t, k, 1, nil, roomyLimits())
		j := k.Begin(1, goalOf(t, `assertz(p)`))
		for range 50 {
			if x.Step() || x.Over() || !sameLine(x.Last(), api.Line{}) || x.Talk() != nil || k.Len() != 0 {
				t.Fatalf("%s: %s", goal, lineText(x.Last()))
			}
		}
		for !j.Step() {
		}
		runOver(t, k, 1, x)
		if lineText(x.Last()) != want {
			t.Errorf("%s: %s, not %s", goal, lineText(x.Last()), want)
		}
	}
	// One that the kernel has ended itself is over; no event has ended it.
	k := kernelOf(t, at("a"))
	x := made(t, k, 1, nil, roomyLimits())
	if e := k.End(1, at("x")); e != api.OK || !x.Over() || !x.Step() || !sameLine(x.Last(), api.Line{}) || x.Talk() != nil {
		t.Errorf("over %v, %s", x.Over(), lineText(x.Last()))
	}
}
