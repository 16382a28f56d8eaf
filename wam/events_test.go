package wam_test

import (
	"math"
	"strconv"
	"strings"
	"testing"

	"pythia/api"
	"pythia/wam"
)

// noSteps are numbers of steps that count as none.
func noSteps() []int { return []int{0, -1, -100, math.MinInt} }

// rests fails, if a machine does something without a step.
func rests(t *testing.T, m *wam.Machine, where string) {
	t.Helper()
	for _, steps := range noSteps() {
		if e := m.Run(steps); !sameEvent(e, api.Event{}) || m.Over() {
			t.Errorf("%s: Run(%d) = %s, over %v", where, steps, eventText(e), m.Over())
		}
	}
}

// next is the next event that isn't EvNone, step by step, and how many steps it has taken; ahead of each the machine rests.
func next(t *testing.T, m *wam.Machine) (api.Event, int) {
	t.Helper()
	for n := 1; n < 1000000; n++ {
		rests(t, m, "step "+strconv.Itoa(n))
		if e := m.Run(1); e.Kind != api.EvNone {
			return e, n
		}
	}
	t.Fatal("nothing is told")
	return api.Event{}, 0
}

// P19.1: each kind of an event, and what Run tells behind it.
func TestEvents(t *testing.T) {
	m := loaded(t, facts, `(p(X), (X = 1 ; u(X)))`)
	for i, want := range []string{`yes ','(p(1),;(=(1,1),u(1)))`, `ask u(1)`, `yes ','(p(1),;(=(1,1),u(1)))`, `ask u(2)`, `ask u(3)`, `no`} {
		e, _ := next(t, m)
		if eventText(e) != want || m.Over() != (want == `no`) {
			t.Fatalf("event %d is %s, not %s; over %v", i, eventText(e), want, m.Over())
		}
		if e.Kind == api.EvAsk {
			again(t, m, e)
			if err := m.Reply(api.Reply{Ok: i == 1}); err != api.OK {
				t.Fatalf("Reply = %d", err)
			}
		}
	}
	isOver(t, m, `no`)
	for _, c := range []struct {
		goal, want string
		limits     api.Limits
	}{
		{`p(4)`, `no`, roomyLimits()},
		{`fail`, `no`, roomyLimits()},
		{`throw(f(X, Y))`, `ball f(_1,_2)`, roomyLimits()},
		{`X`, `ball ` + inst, roomyLimits()},
		{`p(X)`, `limit resource_error(stack)`, api.Limits{Heap: 100, Trail: 100}},
		{`X = a`, `limit resource_error(trail)`, api.Limits{Heap: 100, Stack: 100}},
		{`p(X)`, `limit resource_error(heap)`, api.Limits{Stack: 100, Trail: 100}},
	} {
		m := machine(t, clauses(t, facts), goalOf(t, c.goal), c.limits)
		if e, _ := next(t, m); eventText(e) != c.want {
			t.Errorf("%s: %s, not %s", c.goal, eventText(e), c.want)
			continue
		}
		isOver(t, m, c.want)
	}
	// What is told behind the last answer is failure, or a ball, or a limit.
	tells(t, facts, `p(X)`, `yes p(1); yes p(2); yes p(3); no`)
	tells(t, facts, `(p(X) ; throw(X))`, `yes ;(p(1),throw(1)); yes ;(p(2),throw(2)); yes ;(p(3),throw(3)); ball `+inst)
	tells(t, facts+`n(z). n(s(X)) :- n(X). g :- n(X), fail. g.`, `(z ; g)`, `yes ;(z,g); limit resource_error(heap)`)
}

// again fails, if a machine that waits, or is over, doesn't tell an event again.
func again(t *testing.T, m *wam.Machine, e api.Event) {
	t.Helper()
	was := m.Over()
	for _, steps := range append(noSteps(), 1, 2, 1000, math.MaxInt) {
		if got := m.Run(steps); !sameEvent(got, e) || m.Over() != was {
			t.Errorf("Run(%d) = %s behind %s", steps, eventText(got), eventText(e))
		}
	}
}

// isOver fails, if a machine isn't over with an event.
func isOver(t *testing.T, m *wam.Machine, want string) {
	t.Helper()
	e := m.Run(1)
	if eventText(e) != want || !m.Over() {
		t.Errorf("%s, over %v, not %s", eventText(e), m.Over(), want)
	}
	again(t, m, e)
	replyArg(t, m, want)
	again(t, m, e)
}

// P19.1: an answer is told once; without a step nothing comes behind it.
func TestBehindAnswer(t *testing.T) {
	for _, program := range []string{`p(1).`, `p(1). p(2).`, `p(1) :- z. p(2). z.`, `p(X) :- (X = 1 ; fail).`} {
		m := loaded(t, program, `p(X)`)
		if e, _ := next(t, m); eventText(e) != `yes p(1)` || m.Over() {
			t.Errorf("%s", eventText(e))
		}
		rests(t, m, "behind an answer")
		want := `no`
		if strings.Contains(program, `p(2)`) {
			want = `yes p(2)`
		}
		if e, _ := next(t, m); eventText(e) != want {
			t.Errorf("%s, not %s", eventText(e), want)
		}
	}
}

// P19.2: a Run takes no more steps than it may: each of the code's instructions is one, and each going back.
func TestStepsCount(t *testing.T) {
	for _, c := range []struct {
		program, goal string
		least         int // so many instructions and goings back there are, but for what the machine does for its own goal
	}{
		{`g :- ` + strings.Repeat(`z, `, 79) + `z. z.`, `g`, 161},
		{`g :- ` + strings.Repeat(`!, `, 79) + `!.`, `g`, 81},
		{`g :- ` + strings.Repeat(`(true ; true), `, 49) + `true.`, `g`, 99},
		{`g :- ` + strings.Repeat(`\+ fail, `, 50) + `true.`, `g`, 251},
		{`g(` + strings.Repeat(`a, `, 7) + `a).`, `g(A, B, C, D, E, F, G, H)`, 9},
		{strings.Repeat(`g :- fail. `, 100) + `g.`, `g`, 201},
	} {
		m := loaded(t, c.program, c.goal)
		e, steps := next(t, m)
		if e.Kind != api.EvAnswer || steps < c.least || steps > c.least+10 {
			t.Errorf("%.50s: %s behind %d steps, not %d", c.program, eventText(e), steps, c.least)
		}
		m = loaded(t, c.program, c.goal)
		if e := m.Run(steps - 1); e.Kind != api.EvNone {
			t.Errorf("%.50s: %s behind %d steps", c.program, eventText(e), steps-1)
		}
		if e := m.Run(1); e.Kind != api.EvAnswer {
			t.Errorf("%.50s: %s behind %d steps", c.program, eventText(e), steps)
		}
		m = loaded(t, c.program, c.goal)
		if e := m.Run(steps); e.Kind != api.EvAnswer {
			t.Errorf("%.50s: %s behind %d steps at once", c.program, eventText(e), steps)
		}
	}
}

// P19.2: what goes on for ever is stopped by the steps, or by a limit.
func TestForEver(t *testing.T) {
	for _, program := range []string{`p :- p.`, `p :- p, p.`, `p :- p, !. p.`, `p :- p. p.`, `p :- (p ; p).`, `p :- \+ p.`, `p :- call(p).`, `p :- catch(p, _, p).`, `p :- X = p, X.`, `p :- catch(q, _, p). q :- throw(a).`} {
		m := loaded(t, program, `p`)
		for n := range 100 {
			if e := m.Run(3); e.Kind != api.EvNone || m.Over() {
				t.Errorf("%s tells %s behind %d steps", program, eventText(e), 3*n)
				break
			}
		}
		if e := m.Run(1 << 30); e.Kind != api.EvLimit || e.Term.Args[0].Name == "term" {
			t.Errorf("%s tells %s", program, eventText(e))
		}
	}
	// One that goes back again and again needs no room.
	m := machine(t, clauses(t, `p :- d(A), d(B), d(C), d(D), d(E), fail. d(0). d(1). d(2). d(3). d(4).`), at("p"), api.Limits{Heap: 100, Stack: 10, Trail: 50})
	if e := m.Run(1 << 30); e.Kind != api.EvFail {
		t.Errorf("%s", eventText(e))
	}
}

// limitsTell fails, if a program and a goal don't tell these events within limits.
func limitsTell(t *testing.T, l api.Limits, program, goal, want string) {
	t.Helper()
	if got := told(t, machine(t, clauses(t, program), goalOf(t, goal), l)); got != want {
		t.Errorf("%v: %s ?- %s tells %s, not %s", l, program, goal, got, want)
	}
}

// P19.1: as many choices as Stack.
func TestStack(t *testing.T) {
	const full = `limit resource_error(stack)`
	const two = `p. p. `
	for _, c := range []struct {
		goal    string
		choices int // the most at a time
		answers int
	}{
		{`true`, 0, 1}, {`p`, 1, 2}, {`(p, p)`, 2, 4}, {`(p, p, p)`, 3, 8}, {`(p, !)`, 1, 1}, {`(p, !, p, !, p)`, 1, 2},
		{`(true ; true)`, 1, 2}, {`(true ; true ; true)`, 1, 3}, {`((true ; true) ; true)`, 2, 3}, {`(p ; p)`, 2, 4}, {`(p -> true)`, 2, 1}, {`\+ p`, 2, 0}, {`\+ fail`, 1, 1}, {`(fail -> true ; true)`, 1, 1},
		{`call(p)`, 1, 2}, {`(call((p, !)), p)`, 1, 2}, {`catch(true, _, true)`, 0, 1}, {`catch(p, _, true)`, 1, 2}, {`catch(catch(catch(p, _, true), _, true), _, true)`, 1, 2}, {`catch((p, p, throw(a)), a, p)`, 2, 2}, {`(catch(p, _, true), p)`, 2, 4},
	} {
		var all []string
		for range c.answers {
			all = append(all, `yes `+termText(goalOf(t, c.goal)))
		}
		want := strings.Join(append(all, `no`), `; `)
		for _, stack := range []int{c.choices, c.choices + 1, 100, api.MaxStack, math.MaxInt} {
			limitsTell(t, api.Limits{Heap: 1000, Trail: 1000, Stack: stack}, two, c.goal, want)
		}
		for stack := range c.choices {
			got := told(t, machine(t, clauses(t, two), goalOf(t, c.goal), api.Limits{Heap: 1000, Trail: 1000, Stack: stack}))
			if !strings.HasSuffix(got, full) || !strings.HasPrefix(want, strings.TrimSuffix(got, full)) {
				t.Errorf("%s, Stack %d: %s", c.goal, stack, got)
			}
		}
	}
	for _, none := range []int{0, -1, math.MinInt} {
		limitsTell(t, api.Limits{Heap: 1000, Trail: 1000, Stack: none}, two, `p`, full)
		limitsTell(t, api.Limits{Heap: 1000, Trail: 1000, Stack: none}, two+`q.`, `q`, `yes q; no`)
	}
	for _, c := range []struct{ choices, stack int }{{3999, 3999}, {4000, 4000}, {4000, math.MaxInt}} {
		goal := `catch(c(` + strconv.Itoa(c.choices) + `), _, true)`
		l := api.Limits{Heap: api.MaxHeap, Trail: api.MaxHeap, Stack: c.stack}
		const program = two + `c(N) :- p, M is N - 1, K is 1 // M, c(M).`
		limitsTell(t, l, program, goal, `yes catch(c(`+strconv.Itoa(c.choices)+`),error(evaluation_error(zero_divisor),[]),true); no`)
		limitsTell(t, l, program, `(p, `+goal+`)`, full)
	}
}

// P19.1: no more cells than Heap, no more notes than Trail.
func TestHeapAndTrail(t *testing.T) {
	const program = `n(0, []). n(N, [f(N)|Xs]) :- N > 0, M is N - 1, n(M, Xs). `
	const goal = `(n(40, L), !)`
	want := told(t, loaded(t, program, goal))
	if !strings.HasPrefix(want, `yes `) || !strings.HasSuffix(want, `]),!); no`) {
		t.Fatalf("%s", want)
	}
	last := map[string]string{"heap": `limit resource_error(heap)`, "trail": `limit resource_error(trail)`}
	for name, limit := range map[string]func(n int) api.Limits{
		"heap":  func(n int) api.Limits { return api.Limits{Heap: n, Stack: 100, Trail: api.MaxHeap} },
		"trail": func(n int) api.Limits { return api.Limits{Heap: api.MaxHeap, Stack: 100, Trail: n} },
	} {
		enough := 0
		for n := -1; n < 1500; n++ {
			got := told(t, machine(t, clauses(t, program), goalOf(t, goal), limit(n)))
			switch {
			case got == want && enough == 0:
				enough = n
			case got != want && (enough > 0 || got != last[name]):
				t.Fatalf("%s %d: %s; %d is enough", name, n, got, enough)
			}
		}
		if enough < 40 {
			t.Errorf("%s: %d is enough", name, enough)
		}
		limitsTell(t, limit(math.MinInt), program, goal, last[name])
		limitsTell(t, limit(math.MaxInt), program, goal, want)
	}
	// Above MaxHeap counts as MaxHeap.
	var steps []int
	for _, heap := range []int{api.MaxHeap, api.MaxHeap + 1, math.MaxInt} {
		m := machine(t, clauses(t, `p(X) :- p(f(X)).`), goalOf(t, `p(a)`), api.Limits{Heap: heap, Stack: 10, Trail: heap})
		for n := 0; ; n++ {
			if e := m.Run(1); e.Kind != api.EvNone {
				if eventText(e) != last["heap"] {
					t.Errorf("Heap %d: %s", heap, eventText(e))
				}
				steps = append(steps, n)
				break
			}
		}
	}
	if steps[0] < 1000 || steps[0] != steps[1] || steps[0] != steps[2] {
		t.Errorf("%v", steps)
	}
	// What is gone back from is there again.
	limitsTell(t, api.Limits{Heap: 60, Stack: 10, Trail: 20}, `d(f(1)). d(f(2)). d(f(3)). d(f(4)). d(f(5)). d(f(6)). g :- d(A), d(B), d(C), A == B, B == C, C = f(6).`, `g`, `yes g; no`)
	limitsTell(t, api.Limits{Heap: 60, Stack: 10, Trail: 20}, `g(0). g(N) :- \+ \+ h(N), M is N - 1, !, k(M). k(N) :- throw(N). h(N) :- X = f(N, N, N, N), X = f(A, B, C, D). t(N) :- catch(g(N), M, true), !, M > 0, throw(M). s(N) :- catch(t(N), M, true), M < 3.`, `s(3)`, `yes s(3); no`)
}

// P19.1: terms beyond layer 7's bounds: in an answer, a goal that is asked for, a ball, a goal of layer 17, and one that is called.
func TestTooGreat(t *testing.T) {
	const full = `limit resource_error(term)`
	const deep = `d(0, z) :- !. d(N, s(X)) :- M is N - 1, d(M, X). `
	tells(t, deep, `d(99, X)`, full)
	tells(t, deep+`g :- d(99, X).`, `g`, `yes g; no`)
	if got := told(t, loaded(t, deep, `d(98, X)`)); !strings.HasPrefix(got, `yes d(98,s(s(`) {
		t.Error(got)
	}
	tells(t, deep+`g :- d(99, X), u(X).`, `g`, full)
	tells(t, deep+`g :- d(100, X), throw(X).`, `g`, full)
	tells(t, deep+`g :- d(100, X), catch(throw(X), _, true).`, `g`, full)
	tells(t, deep+`g :- d(99, X), X == X.`, `g`, full)
	tells(t, deep+`g :- d(98, X), X == X.`, `g`, `yes g; no`)
	tells(t, deep+`g :- d(98, X), arg(X, X, _).`, `g`, full) // its ball would be too deep
	tells(t, deep+`g :- d(99, X), call(u, X).`, `g`, full)
	tells(t, deep+`g :- d(99, X), call(u(X)).`, `g`, full)
	const wide = `w(0, z) :- !. w(N, w(X, X)) :- M is N - 1, w(M, X). `
	tells(t, wide, `w(10, X)`, full)
	tells(t, wide+`g :- w(60, X).`, `g`, `yes g; no`)
	tells(t, wide+`g :- w(60, X), u(X).`, `g`, full)
	tells(t, wide+`g :- w(60, X), throw(X).`, `g`, full)
	tells(t, wide+`g :- w(10, X), X = Y.`, `g`, full)
	tells(t, wide+`g :- w(9, X), copy_term(X, Y), X = f(Y).`, `g`, full)
	tells(t, wide+`g :- w(60, X), p(X, Y), Y = a. p(w(X, X), a). p(w(X, Y), b) :- fail.`, `g`, `yes g; no`)
}

// P19.1: where each limit is at least 40 N + 1000, N symbols and choices, none is met.
func TestRoom(t *testing.T) {
	for _, c := range []struct {
		program, goal string
		n             int // no more than so many symbols are needed
	}{
		{`a(1). a(2).`, `(a(X), a(Y))`, 100},
		{`c(0). c(N) :- N > 0, M is N - 1, c(M).`, `(c(30), !)`, 1500},
		{`n([], []). n([X|Xs], [Y|Ys]) :- Y is X + 1, n(Xs, Ys).`, `n([1,2,3,4,5,6,7,8,9,10], L)`, 1600},
	} {
		want := told(t, loaded(t, c.program, c.goal))
		if strings.Contains(want, `limit`) {
			t.Errorf("%s: %s", c.goal, want)
		}
		n := 40*c.n + 1000
		limitsTell(t, api.Limits{Heap: n, Stack: n, Trail: n}, c.program, c.goal, want)
		m := modelled(clauses(t, c.program), goalOf(t, c.goal), 100000, nil)
		if m.symbols > c.n || m.choices > c.n {
			t.Errorf("%s: %d symbols, %d choices", c.goal, m.symbols, m.choices)
		}
	}
}

// P19.1: what is handed on isn't written out again: neither in a program's goal, nor by layer 17.
func TestHandedOn(t *testing.T) {
	big := sized(900, at("a"))
	program := append(clauses(t, `g(_, 0) :- !. g(X, N) :- Y = X, Z = f(Y), Z = f(X), M is N - 1, h(Y, Z, M). h(X, f(_), N) :- g(X, N).`), fact(co("big", big)))
	m := machine(t, program, goalOf(t, `(big(X), g(X, 100), !)`), api.Limits{Heap: 4000, Stack: 100, Trail: 2000})
	if e := m.Run(100000); e.Kind != api.EvAnswer || !same(e.Term.Args[0], co("big", big)) {
		t.Errorf("%.100s", eventText(e))
	}
}
