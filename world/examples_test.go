package world_test

import (
	"math/rand"
	"slices"
	"strconv"
	"testing"

	"pythia/api"
	"pythia/arith"
	"pythia/atoms"
	"pythia/base"
	"pythia/cells"
	"pythia/code"
	"pythia/fault"
	"pythia/term"
	"pythia/wam"
	"pythia/world"
	"pythia/write"
)

// The examples of chapter 22.
func TestExamples(t *testing.T) {
	w := made(t, `p(1). p(2).`, `p(X), out(X), fail ; true`)
	if !w.Rest(api.MaxPicks) || termTexts(w.Lines(1)) != "1 2" || w.Last(1).Kind != api.EvAnswer {
		t.Errorf("%s", view(w))
	}
	w = made(t, ``, `assertz(q(7)), q(X)`)
	if !w.Rest(api.MaxPicks) || w.Told(1) != "yes ','(assertz(q(7)),q(7))\n" {
		t.Errorf("%s", view(w))
	}
	w = made(t, ``, `message_queue_create(Q), thread_get_message(Q, X)`)
	if !w.Rest(api.MaxPicks) || w.State(1) != 2 {
		t.Errorf("%s", view(w))
	}
}

// Example 1 of the whole.
func TestExampleFault(t *testing.T) {
	if got := fault.Text(fault.Wrap(fault.Wrap(fault.New(100, 7), "clause"), "file")); got != "file: clause: fault 100 at 7" {
		t.Error(got)
	}
}

// Example 2 of the whole: two threads add one to a cell by reading and swapping; both read 0.
func TestExampleCells(t *testing.T) {
	a := cells.New(1)
	b, _ := a.Alloc(1)
	one, e := a.Load(b, 0)
	other, e2 := a.Load(b, 0)
	first, e3 := a.Swap(b, 0, one, one+1)
	second, e4 := a.Swap(b, 0, other, other+1)
	if now, _ := a.Load(b, 0); one != 0 || other != 0 || !first || second || now != 1 || e != 0 || e2 != 0 || e3 != 0 || e4 != 0 {
		t.Errorf("read %d, %d; swapped %v, %v; now %d", one, other, first, second, now)
	}
}

// Example 3 of the whole: two operations on the name c, stepped by turns, answer one number.
func TestExampleAtoms(t *testing.T) {
	table, _ := atoms.New(cells.New(1000), 16, 100)
	one, other := table.Begin("c"), table.Begin("c")
	for range 100 {
		one.Step()
		other.Step()
	}
	n, e := one.Answer()
	m, e2 := other.Answer()
	if n == 0 || n != m || e != api.OK || e2 != api.OK {
		t.Errorf("%d, %d; %d, %d", n, e, m, e2)
	}
}

// Example 4 of the whole.
func TestExampleSolve(t *testing.T) {
	bs, ok, e := term.Solve(co("f", va(1), at("b")), co("f", at("a"), va(2)))
	if !ok || e != api.OK || len(bs) != 2 || bs[0].Var != 1 || !same(bs[0].To, at("a")) || bs[1].Var != 2 || !same(bs[1].To, at("b")) {
		t.Errorf("%v, %v, %d", bs, ok, e)
	}
	if bs, ok, e := term.Solve(va(1), co("f", va(1))); ok || bs != nil || e != api.OK {
		t.Errorf("%v, %v, %d", bs, ok, e)
	}
}

// Example 5 of the whole.
func TestExampleWrite(t *testing.T) {
	if got, e := write.Text(reads(t, `a :- b, \+ c.`)[0]); got != `:-(a,','(b,\+(c)))` || e != api.OK {
		t.Errorf("%s, %d", got, e)
	}
}

// Example 6 of the whole.
func TestExampleArith(t *testing.T) {
	for text, want := range map[string]int64{`1 + 2 * 3`: 7, `//(-7, 2)`: -3, `mod(-7, 2)`: 1} {
		if got, ball, ok := arith.Eval(goalOf(t, text)); got != want || ball.Kind != 0 || !ok {
			t.Errorf("%s is %d", text, got)
		}
	}
}

// Example 7 of the whole.
func TestExampleCode(t *testing.T) {
	c, _ := base.Clause(reads(t, `p :- (a -> b ; c).`)[0])
	if own, e := code.Compile(c); len(own.Ins) != 9 || e != api.OK {
		t.Errorf("%v, %d", own.Ins, e)
	}
}

// Example 8 of the whole: over append's two clauses append(X, Y, [1, 2]) has three answers; a thread of a world comes to them one by one.
func TestExampleAppend(t *testing.T) {
	program := `append([], L, L). append([H|T], L, [H|R]) :- append(T, L, R). `
	m, e := wam.New(clauses(t, program), goalOf(t, `append(X, Y, [1, 2])`), conf().Limits)
	if e != api.OK {
		t.Fatal(e)
	}
	var answers []string
	for event := m.Run(1000); event.Kind == api.EvAnswer; event = m.Run(1000) {
		answers = append(answers, termText(event.Term))
	}
	if want := []string{"append([],[1,2],[1,2])", "append([1],[2],[1,2])", "append([1,2],[],[1,2])"}; !slices.Equal(answers, want) || !m.Over() {
		t.Errorf("%q", answers)
	}
	w := made(t, program, `append(X, Y, [1, 2]), out(X + Y), fail`)
	rests(t, w)
	tells(t, w, 1, "+([],[1,2])\n+([1],[2])\n+([1,2],[])\nno\n")
}

// retracting is a world with one fact, and threads that are ready to retract it.
func retracting(t *testing.T, threads int) *world.World {
	t.Helper()
	goals := slices.Repeat([]string{`retract(d(X))`}, threads)
	goals[0] = `assertz(d(1)), out(there), retract(d(X))`
	w := made(t, ``, goals...)
	pickTill(t, w, 1, func() bool { return len(w.Lines(1)) == 1 })
	return w
}

// oneHasIt fails, if not just one of all threads has come true.
func oneHasIt(t *testing.T, w *world.World, how string) {
	t.Helper()
	rests(t, w)
	yes := 0
	for n := range w.Threads() {
		if w.Last(n+1).Kind == api.EvAnswer {
			yes++
		}
	}
	if yes != 1 || w.Faults() != 0 {
		t.Fatalf("%s: %d threads have the fact\n%s", how, yes, view(w))
	}
}

// Example 9 of the whole: of threads that retract one fact at once, one has it: two at every place, more in many orders.
func TestExampleRetract(t *testing.T) {
	for i := range 60 {
		for j := range 60 {
			w := retracting(t, 2)
			w.Play(slices.Repeat([]int{1}, i)...)
			w.Play(slices.Repeat([]int{2}, j)...)
			if w.State(1) != 1 || w.State(2) != 1 {
				break
			}
			oneHasIt(t, w, strconv.Itoa(i)+" and "+strconv.Itoa(j)+" steps")
		}
	}
	r := rand.New(rand.NewSource(9))
	for range 500 {
		w := retracting(t, 2+r.Intn(7))
		first := map[int]bool{}
		for range 400 {
			n := 1 + r.Intn(w.Threads())
			w.Pick(n)
			first[n] = true
		}
		oneHasIt(t, w, "any order")
	}
}

// Example 10 of the whole: a thread that gets a message that nobody sends is blocked for ever; Rest says that nobody is ready.
func TestExampleMessage(t *testing.T) {
	w := made(t, ``, `message_queue_create(Q), thread_get_message(Q, hello)`, `true`)
	for range 10 {
		if !w.Rest(api.MaxPicks) || w.State(1) != 2 || w.Told(1) != "" {
			t.Fatalf("%s", view(w))
		}
	}
}
