package thread_test

import (
	"testing"

	"pythia/api"
	"pythia/kernel"
	"pythia/thread"
	"pythia/wam"
)

// stepsOf are how many steps a thread is to take to its end: each step of a machine, and of a job but its first, which is taken with the machine's.
func stepsOf(t *testing.T, program []api.Clause, goal api.Term) int {
	t.Helper()
	k := kernelOf(t, goal)
	m, _ := wam.New(program, goal, roomyLimits())
	for steps := 1; steps < 100000; steps++ {
		switch e := m.Run(1); e.Kind {
		case api.EvNone:
		case api.EvAsk:
			j := k.Begin(1, e.Term)
			for !j.Step() {
				steps++
			}
			m.Reply(j.Reply())
		default:
			return steps
		}
	}
	t.Fatal("no end")
	return 0
}

// P21.2: one step at a time: of the machine, or of a job; what a thread takes to its end.
func TestHowManySteps(t *testing.T) {
	program := clauses(t, `p(1). p(2). p(3). q(X) :- p(X), out(X), X > 2. r :- assertz(d(1)), asserta(d(2)), d(X), retract(d(X)), \+ d(2), clause(d(Y), true), out(Y).`)
	for _, g := range []string{`true`, `p(2)`, `q(X)`, `r`, `(r, r)`, `thread_self(X)`, `assertz(a)`, `catch(nobody, E, out(E))`, `(message_queue_create(Q), thread_send_message(Q, m(X)), thread_get_message(Q, Y))`} {
		goal := goalOf(t, g)
		k := kernelOf(t, goal)
		x := made(t, k, 1, program, roomyLimits())
		if got, want := runOver(t, k, 1, x), stepsOf(t, program, goal); got != want || x.Last().Kind != api.EvAnswer {
			t.Errorf("%s: %s behind %d steps, not %d", g, lineText(x.Last()), got, want)
		}
	}
}

// rest fails, if a thread is over, asks for anything but this, or was told anything but this many replies.
func rest(t *testing.T, k *kernel.Kernel, x *thread.Thread, asks string, told int) {
	t.Helper()
	got := ``
	if u := k.Asks(1); u.Kind != 0 {
		got = termText(u)
	}
	if x.Over() || !sameLine(x.Last(), api.Line{}) || got != asks || len(x.Talk()) != told {
		t.Fatalf("over %v with %s, asks for %q, was told\n%s", x.Over(), lineText(x.Last()), got, entryTexts(x.Talk()))
	}
}

// P21.2: a step of the machine asks for nothing; an EvAsk's step begins the job and does its first step, which is all that this one needs.
func TestShortJob(t *testing.T) {
	k, xs := threadsOf(t, `p :- q, thread_self(X). q.`, `p`)
	x := xs[0]
	m, _ := wam.New(clauses(t, `p :- q, thread_self(X). q.`), at("p"), roomyLimits())
	for m.Run(1).Kind == api.EvNone {
		if x.Step() || k.Len() != 0 {
			t.Fatal("something was done")
		}
		rest(t, k, x, ``, 0)
	}
	if x.Step() || k.Len() != 1 {
		t.Fatalf("noted is %s", entryTexts(k.Log()))
	}
	rest(t, k, x, ``, 1) // the machine was told, and has done no step since
	m.Reply(x.Talk()[0].Reply)
	for m.Run(1).Kind == api.EvNone {
		if x.Step() {
			t.Fatal("over too soon")
		}
	}
	if !x.Step() || !x.Over() || lineText(x.Last()) != `yes p` || k.Len() != 2 {
		t.Errorf("%s, noted is %s", lineText(x.Last()), entryTexts(k.Log()))
	}
}

// P21.2: a job of many steps: its goal is what the thread asks for from its first step on, nothing is told of it ahead of its last one.
func TestLongJob(t *testing.T) {
	k, xs := threadsOf(t, ``, `assertz(p(X, Y))`)
	x := xs[0]
	twin := kernelOf(t, at("main"))
	j := twin.Begin(1, goalOf(t, `assertz(p(X, Y))`))
	for over := false; !over; {
		over = j.Step()
		if x.Step() || k.Len() != twin.Len() {
			t.Fatalf("noted is\n%s\nnot\n%s", entryTexts(k.Log()), entryTexts(twin.Log()))
		}
		if over {
			rest(t, k, x, ``, 1)
		} else {
			rest(t, k, x, `assertz(p(_1,_2))`, 0)
		}
	}
	runOver(t, k, 1, x)
	if got := entryTexts(k.Log()); got != "1 '$add'(:-(p(_1,_2),true),1) = yes\n1 '$end'(true) = yes" {
		t.Errorf("noted is %s", got)
	}
}

// P21.2: a step of a thread that is blocked, over or gone does nothing; each of another one does nothing to it.
func TestStepsInVain(t *testing.T) {
	k, xs := threadsOf(t, `w :- message_queue_create(Q), thread_get_message(Q, X), out(X).`, `w`, `thread_self(X)`, `thread_join(2, S)`)
	one, two, three := xs[0], xs[1], xs[2]
	run(t, k, 1, one)
	states(t, k, 2, 1, 1)
	inVain := func(x *thread.Thread, over bool) {
		t.Helper()
		was := entryTexts(k.Log())
		talk, last := x.Talk(), x.Last()
		var before []int
		for n := 1; n <= 3; n++ {
			before = append(before, k.State(n))
		}
		for range 20 {
			if x.Step() != over || x.Over() != over {
				t.Fatalf("over %v, not %v", x.Over(), over)
			}
		}
		if entryTexts(k.Log()) != was || entryTexts(x.Talk()) != entryTexts(talk) || !sameLine(x.Last(), last) {
			t.Fatal("something was done")
		}
		states(t, k, before...)
	}
	inVain(one, false)
	runOver(t, k, 2, two)
	inVain(one, false)
	inVain(two, true)
	rest(t, k, one, `thread_get_message(1,_1)`, 1)
	runOver(t, k, 3, three)
	states(t, k, 2, 0, 3)
	inVain(two, true)
	inVain(three, true)
	if lineText(two.Last()) != `yes thread_self(2)` || lineText(three.Last()) != `yes thread_join(2,true)` {
		t.Errorf("%s, %s", lineText(two.Last()), lineText(three.Last()))
	}
}

// P21.1, P21.2: threads that are stepped as the chapter says, one at a time, whatever they ask for.
func TestStepByStep(t *testing.T) {
	program := clauses(t, `p(1). p(2). p(3). q(X) :- p(X), out(X), X > 2. fill(N) :- N > 0, assertz(d(N)), M is N - 1, fill(M). fill(0).
		all(X) :- d(X), out(X), fail. all(_) :- retract(d(X)), fail. all(none).`)
	for _, g := range []string{
		`q(X)`, `fill(12), all(X)`, `catch((fill(3), d(X), X < 2, throw(X)), Y, out(Y))`, `\+ \+ (message_queue_create(Q), thread_peek_message(Q, X))`, `(d(X) ; out(no))`,
		`(assertz((d(X) :- p(X), !)), d(Y), out(Y), fail ; clause(d(X), B))`, `mutex_create(M), mutex_lock(M), mutex_lock(M)`, `thread_create(q(X), T), thread_join(T, S)`,
	} {
		w := newWatch(t, conf(), program, roomyLimits(), goalOf(t, g))
		w.turns(5000)
		if !w.threads[1].over {
			t.Errorf("%s isn't over", g)
		}
		w.close()
	}
}
