package thread_test

import (
	"math"
	"slices"
	"strconv"
	"testing"

	"pythia/api"
	"pythia/kernel"
	"pythia/thread"
	"pythia/wam"
)

// refused fails, if New doesn't answer an error and nothing else.
func refused(t *testing.T, k *kernel.Kernel, n int, program []api.Clause, want api.Errno, what string) {
	t.Helper()
	if x, e := thread.New(k, n, program, roomyLimits()); x != nil || e != want {
		t.Errorf("%s: New of thread %d = %v, %d, not %d", what, n, x, e, want)
	}
}

// flawed are programs with the errors that layer 19 answers of them.
func flawed(t *testing.T) map[api.Errno][][]api.Clause {
	ok := clauses(t, `p(a). p(X) :- q(X), !. q(b).`)
	numbered := cl(nu(3), at("true"))
	static := cl(co("is", va(1), va(2)), at("true"))
	var preds, many []api.Clause
	for i := range api.MaxPreds + 1 {
		preds = append(preds, cl(at("p"+strconv.Itoa(i)), at("true")))
	}
	for range api.MaxClause + 1 {
		many = append(many, cl(at("p"), at("true")))
	}
	all := map[api.Errno][][]api.Clause{
		api.ErrClause: {
			append(slices.Clone(ok), numbered), append(slices.Clone(ok), cl(va(1), at("true"))), {cl(at("p"), nu(1))}, {{}},
			{numbered, static}, append(slices.Clone(many[1:]), numbered, many[0]),
		},
		api.ErrStatic: {{static}, append(slices.Clone(ok), static, numbered), {cl(co(",", at("a"), at("b")), at("true"))}, {cl(co("call", va(1)), at("p"))}, append(slices.Clone(preds[1:]), static, preds[0])},
		api.ErrMany:   {preds, many, append(slices.Clone(many), numbered), append(slices.Clone(preds), static)},
	}
	for _, u := range wrong() {
		all[api.ErrClause] = append(all[api.ErrClause], []api.Clause{cl(u, at("true"))}, []api.Clause{ok[0], cl(at("p"), u)})
	}
	return all
}

// P21.1, P21.2: New's errors in their order: no such thread, one that is over, one that is gone, ahead of those of the program.
func TestNewErrors(t *testing.T) {
	k := kernelOf(t, at("a"), at("b"), at("c"), at("d"), co("f", va(1)))
	if e := k.End(2, at("x")); e != api.OK {
		t.Fatal(e)
	}
	if e := k.End(3, at("x")); e != api.OK {
		t.Fatal(e)
	}
	does(t, k, 4, `thread_join(3, S)`, `thread_join(3,x)`)
	was := entryTexts(k.Log())
	programs := flawed(t)
	programs[api.OK] = [][]api.Clause{nil, {}, clauses(t, `p(a).`)}
	for err, all := range programs {
		for i, program := range all {
			what := "program " + strconv.Itoa(int(err)) + " " + strconv.Itoa(i)
			for _, n := range []int{0, -1, 6, 9, math.MaxInt, math.MinInt, 2, 3} {
				refused(t, k, n, program, api.ErrGone, what)
			}
			if err != api.OK {
				refused(t, k, 1, program, err, what)
				refused(t, k, 5, program, err, what)
			} else {
				made(t, k, 1, program, roomyLimits())
			}
		}
	}
	states(t, k, 1, 3, 0, 1, 1)
	if entryTexts(k.Log()) != was || k.Asks(1).Kind != 0 {
		t.Errorf("New was noted: %s", entryTexts(k.Log()))
	}
	x := made(t, k, 1, nil, roomyLimits())
	runOver(t, k, 1, x)
	refused(t, k, 1, nil, api.ErrGone, "behind its end")
	does(t, k, 4, `thread_join(1, S)`, `thread_join(1,exception(error(existence_error(procedure,/(a,0)),[])))`)
	refused(t, k, 1, nil, api.ErrGone, "behind its being joined")
}

// P21.2: a thread that is blocked is none of New's errors; its machine goes on when the kernel's thread is ready.
func TestNewBlocked(t *testing.T) {
	program, goal := clauses(t, `p :- q, q, q. q.`), at("p")
	k := kernelOf(t, goal, at("x"))
	does(t, k, 2, `mutex_create(M)`, `mutex_create(1)`)
	does(t, k, 2, `mutex_lock(1)`, `yes`)
	j := k.Begin(1, goalOf(t, `mutex_lock(1)`))
	j.Step()
	states(t, k, 2)
	x := made(t, k, 1, program, roomyLimits())
	for range 5 {
		if x.Step() || x.Over() {
			t.Fatal("a blocked thread is over")
		}
	}
	does(t, k, 2, `mutex_unlock(1)`, `yes`)
	if !j.Step() {
		t.Fatal("the job isn't over")
	}
	if steps, want := runOver(t, k, 1, x), stepsOf(t, program, goal); steps != want || lineText(x.Last()) != `yes p` || x.Talk() != nil {
		t.Errorf("%s behind %d steps, not %d", lineText(x.Last()), steps, want)
	}
}

// P1: New takes a goal of any kind that the kernel takes.
func TestAnyGoal(t *testing.T) {
	for _, c := range []struct {
		goal api.Term
		want string
	}{
		{va(7), `ball error(instantiation_error,[])`},
		{nu(-3), `ball error(type_error(callable,-3),[])`},
		{at("!"), `yes !`},
		{at(""), `ball error(existence_error(procedure,/('',0)),[])`},
		{tower(at("true"), `\+`, 98), `yes ` + termText(tower(at("true"), `\+`, 98))},
		{tower(at("true"), `\+`, 99), `no`},
		{co("=", va(5), va(3)), `yes =(_1,_1)`},
		{co("w", sized(1999, va(1))), `ball error(resource_error(term),[])`},
	} {
		k := kernelOf(t, c.goal)
		x := made(t, k, 1, nil, roomyLimits())
		runOver(t, k, 1, x)
		if lineText(x.Last()) != c.want {
			t.Errorf("%.100s: %s, not %s", termText(c.goal), lineText(x.Last()), c.want)
		}
	}
}

// sizes are numbers of all kinds.
func sizes() []int {
	return []int{math.MinInt, -1, 0, 1, 2, 3, 5, 10, 40, 1000, api.MaxStack, api.MaxHeap, api.MaxHeap + 1, math.MaxInt}
}

// P21.1: limits of every size are the machine's: the thread comes to what a machine with these comes to.
func TestLimits(t *testing.T) {
	program := clauses(t, `p(1). p(2). p(3). q(X, Y) :- p(X), p(Y), X > Y, \+ Y = 1. r(0). r(N) :- N > 0, M is N - 1, r(M).`)
	goal := goalOf(t, `(q(X, Y), r(5) ; r(30))`)
	came := map[string]int{}
	for _, heap := range sizes() {
		for _, stack := range sizes() {
			for _, trail := range sizes() {
				l := api.Limits{Heap: heap, Stack: stack, Trail: trail}
				k := kernelOf(t, goal)
				x := made(t, k, 1, program, l)
				steps := runOver(t, k, 1, x)
				m, _ := wam.New(program, goal, l)
				if e := m.Run(steps - 1); e.Kind != api.EvNone {
					t.Fatalf("%v: a machine tells %s ahead of step %d", l, lineText(api.Line(e)), steps)
				}
				if e := m.Run(1); !sameLine(api.Line(e), x.Last()) {
					t.Fatalf("%v: %s, not %s", l, lineText(x.Last()), lineText(api.Line(e)))
				}
				came[statusOf(t, k, 1)]++
			}
		}
	}
	for _, want := range []string{`true`, `limit(heap)`, `limit(stack)`, `limit(trail)`} {
		if came[want] < 10 {
			t.Errorf("%v", came)
		}
	}
}
