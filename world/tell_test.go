package world_test

import (
	"strconv"
	"strings"
	"testing"

	"pythia/api"
	"pythia/world"
)

// growing is a program whose goals reach each limit.
const growing = `wide(0, a). wide(N, f(X, X)) :- N > 0, M is N - 1, wide(M, X). loop(X) :- loop(f(X)). many(1). many(2). many(3). trail(f(X, Y, Z)) :- X = 1, Y = 2, Z = 3. p(1). p(2).`

// P22.1: each kind of Last, and what is told of it: nothing ahead of the end, all of it from the end on, also when the thread is joined.
func TestEnds(t *testing.T) {
	all := conf().Limits
	for _, c := range []struct {
		goal, want string
		limits     api.Limits
	}{
		{`true`, "yes true\n", all},
		{`p(X), out(X), X > 1`, "1\n2\nyes ','(p(2),','(out(2),>(2,1)))\n", all},
		{`out(f(Y, X, Y)), X = Z`, "f(_1,_2,_1)\nyes ','(out(f(_1,_2,_1)),=(_2,_2))\n", all},
		{`p(3)`, "no\n", all},
		{`p(X), out(X), fail`, "1\n2\nno\n", all},
		{`out('a b'), out([]), out("x") ; true`, "", all}, // isn't read
		{`out('a b'), out([1,{}|T]), fail`, "'a b'\n[1,{}|_1]\nno\n", all},
		{`out('it''s'), out('\n'), throw(b(X, Y, X))`, "'it\\'s'\n'\\n'\nball b(_1,_2,_1)\n", all},
		{`out(-3), out(- 3), throw(_)`, "-3\n-(3)\nball error(instantiation_error,[])\n", all},
		{`nobody(1, 2)`, "ball error(existence_error(procedure,/(nobody,2)),[])\n", all},
		{`X is 1 + a`, "ball error(type_error(evaluable,/(a,0)),[])\n", all},
		{`out(x), wide(11, X)`, "x\nlimit resource_error(term)\n", all},
		{`loop(a)`, "limit resource_error(heap)\n", api.Limits{Heap: 200, Stack: 100, Trail: 1000}},
		{`out(x), many(X), many(Y), X = 3`, "x\nlimit resource_error(stack)\n", api.Limits{Heap: 1000, Stack: 1, Trail: 1000}},
		{`trail(X)`, "limit resource_error(trail)\n", api.Limits{Heap: 1000, Stack: 10, Trail: 1}},
	} {
		conf := conf()
		conf.Limits = c.limits
		if c.want == "" {
			refused(t, conf, growing, stopped(c.goal), "goal: token: fault 80 at 25")
			continue
		}
		w := madeOver(t, conf, growing, c.goal, `thread_join(1, S)`)
		pickTill(t, w, 2, func() bool { return w.State(2) == 2 })
		for w.State(1) == 1 {
			lines := ""
			for _, l := range w.Lines(1) {
				lines += termText(l) + "\n"
			}
			if !strings.HasPrefix(c.want, lines) || w.Told(1) != lines || !sameLine(w.Last(1), api.Line{}) {
				t.Fatalf("%s: ahead of its end %q, %s", c.goal, w.Told(1), lineText(w.Last(1)))
			}
			w.Pick(1)
		}
		isEnded(t, w, 1, 3, c.want)
		rests(t, w)
		states(t, w, 0)
		isEnded(t, w, 1, 0, c.want)
	}
}

// isEnded fails, if a thread that is over hasn't told this, or in another state.
func isEnded(t *testing.T, w *world.World, n, state int, want string) {
	t.Helper()
	for range 2 {
		tells(t, w, n, want)
		last := w.Last(n)
		if !strings.HasSuffix(want, lineText(last)+"\n") || w.State(n) != state || w.Asks(n).Kind != 0 || w.Pick(n) {
			t.Fatalf("thread %d in state %d: %s, asks for %s", n, w.State(n), lineText(last), termText(w.Asks(n)))
		}
		spoil(last.Term)
	}
}

// P22.1: of no thread, and of one that has never been picked, nothing is told, whatever the others do.
func TestNobody(t *testing.T) {
	w := made(t, `p(1). p(2).`, `out(x), thread_create((out(y), p(X)), T), message_queue_create(Q), thread_get_message(Q, M)`, `p(Y)`)
	blank := func() {
		t.Helper()
		for _, n := range nobody(w) {
			if w.State(n) != 0 || !isBlank(w, n) {
				t.Fatalf("thread %d, that there isn't: state %d, %s, %q", n, w.State(n), lineText(w.Last(n)), w.Told(n))
			}
		}
	}
	for w.State(1) == 1 {
		blank()
		isNew(t, w, 2)
		if w.Threads() == 3 {
			isNew(t, w, 3)
		}
		w.Pick(1)
	}
	blank()
	if w.Threads() != 3 {
		t.Fatalf("%d threads", w.Threads())
	}
	pickOut(t, w, 2)
	isNew(t, w, 3)
	pickOut(t, w, 3)
	blank()
	tells(t, w, 1, "x\n")
	tells(t, w, 2, "yes p(1)\n")
	tells(t, w, 3, "y\nyes ','(out(y),p(1))\n")
}

// P22.1: a thread that comes by thread_create is the next one, ready, with that goal, and carries out the program.
func TestCreated(t *testing.T) {
	w := made(t, `p(1). p(2). make(N) :- thread_create((p(X), X >= N, out(X)), T), out(T).`, `make(1), make(2), make(3), make(4), make(5), make(6), make(7), make(8)`, `true`)
	was := 2
	for w.State(1) == 1 {
		w.Pick(1)
		if w.Threads() != was {
			if was++; w.Threads() != was {
				t.Fatalf("%d threads, not %d", w.Threads(), was)
			}
			isNew(t, w, was)
		}
	}
	tells(t, w, 1, "3\n4\n5\n6\n7\n8\nball error(resource_error(threads),[])\n")
	rests(t, w)
	for n, want := range []string{"1\nyes ','(p(1),','(>=(1,1),out(1)))\n", "2\nyes ','(p(2),','(>=(2,2),out(2)))\n", "no\n", "no\n", "no\n", "no\n"} {
		tells(t, w, n+3, want)
	}
	if w.Threads() != 8 {
		t.Errorf("%d threads", w.Threads())
	}
}

// P22.1: numbers of threads that are gone aren't used again; there may be many more than at once.
func TestManyThreads(t *testing.T) {
	w := made(t, `one(N) :- thread_create(out(N), T), thread_join(T, S), out(T - S). all(0). all(N) :- one(N), M is N - 1, all(M).`, `all(30)`)
	rests(t, w)
	want := ""
	for n := 2; n <= 31; n++ {
		want += "-(" + strconv.Itoa(n) + ",true)\n"
		tells(t, w, n, strconv.Itoa(32-n)+"\nyes out("+strconv.Itoa(32-n)+")\n")
		if w.State(n) != 0 || len(w.Talk(n)) != 1 {
			t.Fatalf("thread %d: state %d, %s", n, w.State(n), entryTexts(w.Talk(n)))
		}
	}
	tells(t, w, 1, want+"yes all(30)\n")
	if w.Threads() != 31 || w.Faults() != 0 {
		t.Errorf("%d threads, %d faults", w.Threads(), w.Faults())
	}
}

// P22.1: what is told of a thread at each of its picks: what it asks for, what it was told, its lines, and the log.
func TestAsksAndTalk(t *testing.T) {
	w := made(t, `go(X) :- assertz(d(Y, X)), d(A, B), mutex_create(M), mutex_lock(M), out(B), nobody(B, A).`, `go(V)`)
	seen := map[string]bool{}
	for w.State(1) == 1 {
		talk, log, asks := w.Talk(1), w.Log(), w.Asks(1)
		for i, e := range talk {
			if e.Pick != i || e.Thread != 1 {
				t.Fatalf("talk %d: %d of thread %d", i, e.Pick, e.Thread)
			}
		}
		for i, e := range log {
			if e.Pick != i || e.Thread != 1 || len(log) != w.Len() {
				t.Fatalf("log of %d, %d: %d of thread %d", w.Len(), i, e.Pick, e.Thread)
			}
		}
		seen["asks "+termText(asks)+" "+strconv.Itoa(len(talk))+" "+strconv.Itoa(len(log))+" "+termTexts(w.Lines(1))] = true
		w.Pick(1)
	}
	for _, want := range []string{
		"asks assertz(d(_1,_2)) 0 0 ", "asks assertz(d(_1,_2)) 0 1 ", "asks d(_1,_2) 1 1 ", "asks d(_1,_2) 1 2 ",
		"asks no term of kind 0  2 2 ", "asks no term of kind 0  3 3 ", "asks no term of kind 0  4 4 ", "asks no term of kind 0  5 5 _1",
	} {
		if !seen[want] {
			t.Errorf("never seen: %q in %v", want, seen)
		}
	}
	want := `1 assertz(d(_1,_2)) = yes
1 d(_1,_2) = :-(d(_1,_2),true)
1 mutex_create(_1) = mutex_create(1)
1 mutex_lock(1) = yes
1 out(_1) = yes
1 nobody(_1,_2) = ball error(existence_error(procedure,/(nobody,2)),[])`
	if got := entryTexts(w.Talk(1)); got != want {
		t.Errorf("asked for\n%s\nnot\n%s", got, want)
	}
	want = `1 '$add'(:-(d(_1,_2),true),1) = yes
1 '$read'(/(d,2),[1]) = yes
1 mutex_create(_1) = mutex_create(1)
1 mutex_lock(1) = yes
1 out(_1) = yes
1 nobody(_1,_2) = ball error(existence_error(procedure,/(nobody,2)),[])
1 '$end'(exception(error(existence_error(procedure,/(nobody,2)),[]))) = yes`
	if got := entryTexts(w.Log()); got != want || w.Len() != 7 {
		t.Errorf("noted is\n%s\nnot\n%s", got, want)
	}
}

// P22.1: the program's predicates are static, also for threads that ask about them.
func TestStatic(t *testing.T) {
	w := made(t, `p(1). q(X) :- p(X). r.`, `catch(assertz(p(2)), E, true), out(E), catch(retract((q(X) :- B)), F, true), out(F), catch(clause(r, C), G, true), out(G), asserta(p), assertz(q), p, q`)
	rests(t, w)
	tells(t, w, 1, `error(permission_error(modify,static_procedure,/(p,1)),[])
error(permission_error(modify,static_procedure,/(q,1)),[])
error(permission_error(access,private_procedure,/(r,0)),[])
`+lineText(w.Last(1))+"\n")
	if w.Last(1).Kind != api.EvAnswer {
		t.Errorf("%s", lineText(w.Last(1)))
	}
}

// P22.1: limits of every size are each thread's own.
func TestLimits(t *testing.T) {
	kinds := map[string]int{}
	for _, heap := range []int{-1, 0, 1, 20, 60, 200, 1000, api.MaxHeap, 1 << 40} {
		for _, stack := range []int{-1, 0, 1, 2, 5, api.MaxStack, 1 << 40} {
			for _, trail := range []int{-1, 0, 1, 5, 1000, 1 << 40} {
				c := conf()
				c.Limits = api.Limits{Heap: heap, Stack: stack, Trail: trail}
				x := newWatch(t, c, growing, `many(X), many(Y), X > Y, trail(Z), assertz(d(Z))`, `d(X) ; true`, `thread_create(many(X), T), thread_join(T, S)`)
				x.rest(2000)
				x.close()
				for n := range x.w.Threads() {
					if x.w.State(n+1) != 0 {
						kinds[lineText(api.Line{Kind: x.w.Last(n + 1).Kind})]++
					}
				}
			}
		}
	}
	if kinds["yes"] < 100 || kinds["limit"] < 100 {
		t.Errorf("%v", kinds)
	}
}
