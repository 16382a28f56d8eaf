package kernel_test

import (
	"math"
	"slices"
	"strconv"
	"testing"

	"pythia/api"
	"pythia/kernel"
)

// sizes are numbers of all kinds.
func sizes() []int {
	return []int{math.MinInt, -1, 0, 1, 2, 7, 8, 9, 59, 60, 61, 64, 65, 1000, api.MaxCells, api.MaxCells + 1, math.MaxInt}
}

// P20.2: a Conf of every size: how many threads, and the error of too few cells.
func TestConf(t *testing.T) {
	for _, cells := range sizes() {
		for _, n := range sizes() {
			k, e := kernel.New(api.Conf{Threads: n, Cells: cells, Limbo: n, Limits: api.Limits{Heap: n, Stack: n, Trail: n}}, nil)
			if cells < api.MaxPreds {
				if k != nil || e != api.ErrFull {
					t.Fatalf("New with %d cells = %v, %d", cells, k, e)
				}
				continue
			}
			if k == nil || e != api.OK {
				t.Fatalf("New with %d cells, %d threads = %v, %d", cells, n, k, e)
			}
			most := min(max(n, 1), api.MaxThread)
			for i := 1; i <= most; i++ {
				spawns(t, k, nu(3), i)
			}
			if i, e := k.Spawn(at("a")); i != 0 || e != api.ErrMany {
				t.Fatalf("Spawn beyond %d = %d, %d", most, i, e)
			}
		}
	}
}

// P20.2: room and bound are the DB's.
func TestRoom(t *testing.T) {
	for limbo, want := range map[int]string{-1: resBall(`cells`), 0: resBall(`cells`), 1: `yes`, 64: `yes`, 65: `yes`, math.MaxInt: `yes`} {
		k := made(t, api.Conf{Cells: 100, Limbo: limbo}, 1)
		j := begun(t, k, 1, goalOf(t, `assertz(p)`))
		run(t, j)
		if got := replyText(j.Reply()); got != want {
			t.Errorf("with a bound of %d: %s", limbo, got)
		}
	}
	for cells := 60; cells <= 75; cells++ {
		k := made(t, api.Conf{Cells: cells, Limbo: 1}, 1)
		added := 0
		for i := range 8 {
			j := begun(t, k, 1, co("assertz", at(string(rune('a'+i)))))
			run(t, j)
			if j.Reply().Ok {
				added++
			}
		}
		if added != min((cells-60)/2, 8) { // a clause alone takes its stamp and its number
			t.Errorf("%d cells: %d clauses", cells, added)
		}
	}
}

// P20.2: Spawn: its errors in their order; the goal is renamed, and may be any right term.
func TestSpawn(t *testing.T) {
	k := made(t, api.Conf{Threads: 2, Cells: 100, Limbo: 1}, 0)
	for name, u := range wrong() {
		if n, e := k.Spawn(u); n != 0 || e != api.ErrTerm {
			t.Errorf("Spawn of %s = %d, %d", name, n, e)
		}
	}
	states(t, k, 0, 0, 0)
	spawns(t, k, untidy(co("f", va(9), va(3), co("g", va(9), nu(-7), at("b")))), 1)
	spawns(t, k, va(math.MaxInt64), 2)
	if n, e := k.Spawn(at("a")); n != 0 || e != api.ErrMany {
		t.Errorf("a third thread = %d, %d", n, e)
	}
	for name, u := range wrong() {
		if n, e := k.Spawn(u); n != 0 || e != api.ErrTerm {
			t.Errorf("Spawn of %s beyond the bound = %d, %d", name, n, e)
		}
	}
	if !same(k.Goal(1), co("f", va(1), va(2), co("g", va(1), nu(-7), at("b")))) || !same(k.Goal(2), va(1)) {
		t.Errorf("goals %s, %s", text(k.Goal(1)), text(k.Goal(2)))
	}
	for _, n := range []int{0, 3, -1, math.MaxInt, math.MinInt} {
		if !same(k.Goal(n), api.Term{}) || !same(k.Asks(n), api.Term{}) || k.Lines(n) != nil || k.State(n) != 0 {
			t.Errorf("thread %d is told of", n)
		}
	}
	if k.Len() != 0 || k.Log() != nil || k.Faults() != 0 {
		t.Error("something was noted")
	}
	for _, u := range []api.Term{tower(at("a"), "s", 99), sized(2000, va(5)), nu(math.MinInt64), at("")} {
		k := roomyKernel(t, 0)
		spawns(t, k, u, 1)
		if !same(k.Goal(1), renamed(u)) {
			t.Errorf("%.100s is %.100s", text(u), text(k.Goal(1)))
		}
	}
}

// P20.2: Begin is nil of a thread that isn't ready, or has a job, and of what is no goal.
func TestBegin(t *testing.T) {
	k := withQueues(t, 3, 1)
	for _, n := range []int{0, 4, -1, math.MaxInt, math.MinInt} {
		if k.Begin(n, at("a")) != nil {
			t.Errorf("a job of thread %d", n)
		}
	}
	for name, u := range wrong() {
		if k.Begin(1, u) != nil {
			t.Errorf("a job of %s", name)
		}
	}
	for _, u := range []api.Term{va(1), va(math.MaxInt64), nu(0), nu(7)} {
		if k.Begin(1, u) != nil {
			t.Errorf("a job of %s", text(u))
		}
	}
	if !same(k.Asks(1), api.Term{}) || k.Len() != 1 {
		t.Error("a job that is none")
	}
	j := begun(t, k, 1, untidy(co("out", va(7), va(5), va(7))))
	if k.Begin(1, at("a")) != nil || !same(k.Asks(1), co("out", va(1), va(2), va(1))) || !same(k.Asks(2), api.Term{}) {
		t.Error("a second job")
	}
	run(t, j)
	if !same(k.Asks(1), api.Term{}) {
		t.Error("a job that is over")
	}
	waits(t, k, 1, `thread_get_message(1, f(X, Y))`)
	if k.Begin(1, at("a")) != nil || text(k.Asks(1)) != `thread_get_message(1,f(_1,_2))` {
		t.Error("a job of a blocked thread")
	}
	settles(t, k, 2, `thread_send_message(1, x)`, `yes`)
	if k.State(1) != 1 || k.Begin(1, at("a")) != nil {
		t.Error("a second job of a thread that was woken")
	}
	ends(t, k, 3, at("x"))
	if k.Begin(3, at("a")) != nil {
		t.Error("a job of a thread that is over")
	}
	settles(t, k, 2, `thread_join(3, S)`, `thread_join(3,x)`)
	if k.Begin(3, at("a")) != nil {
		t.Error("a job of a thread that is gone")
	}
}

// P20.2: a job that is over stays as it is, whatever its thread does then.
func TestStepBehindEnd(t *testing.T) {
	k := roomyKernel(t, 2)
	j := begun(t, k, 1, goalOf(t, `thread_self(X)`))
	run(t, j)
	other := begun(t, k, 1, goalOf(t, `assertz(p)`))
	was := k.Len()
	for range 20 {
		if !j.Step() || !j.Over() || replyText(j.Reply()) != `thread_self(1)` {
			t.Fatal("a job that was over")
		}
	}
	if k.Len() != was || other.Over() {
		t.Error("a job that is over has done something")
	}
	run(t, other)
	ends(t, k, 1, at("x"))
	if !j.Step() || !other.Step() || k.State(1) != 3 {
		t.Error("jobs of a thread that is over")
	}
	settles(t, k, 2, `thread_join(1, S)`, `thread_join(1,x)`)
	if !j.Step() || replyText(j.Reply()) != `thread_self(1)` || replyText(other.Reply()) != `yes` {
		t.Error("jobs of a thread that is gone")
	}
}

// P20.2: End: its errors in their order; what it notes.
func TestEnd(t *testing.T) {
	k := withQueues(t, 4, 1)
	for _, n := range []int{0, 5, -1, math.MaxInt, math.MinInt} {
		for _, u := range []api.Term{at("a"), {}} {
			if e := k.End(n, u); e != api.ErrGone {
				t.Errorf("End of thread %d = %d", n, e)
			}
		}
	}
	waits(t, k, 1, `thread_get_message(1, X)`)
	j := begun(t, k, 2, goalOf(t, `assertz(p)`))
	ends(t, k, 3, at("x"))
	for n := 1; n <= 3; n++ {
		for _, u := range []api.Term{at("a"), {}, tower(at("a"), "s", 99)} {
			if e := k.End(n, u); e != api.ErrBlocked {
				t.Errorf("End of thread %d = %d", n, e)
			}
		}
	}
	settles(t, k, 4, `thread_join(3, S)`, `thread_join(3,x)`)
	if e := k.End(3, at("a")); e != api.ErrGone {
		t.Errorf("End of a thread that is gone = %d", e)
	}
	was := k.Len()
	for name, u := range wrong() {
		if e := k.End(4, u); e != api.ErrTerm {
			t.Errorf("End with %s = %d", name, e)
		}
	}
	for _, u := range []api.Term{tower(at("a"), "s", 96), tower(at("a"), "s", 99), sized(1991, at("a")), sized(2000, va(1))} {
		if e := k.End(4, u); e != api.ErrTerm {
			t.Errorf("End with %.50s = %d", text(u), e)
		}
	}
	states(t, k, 2, 1, 0, 1)
	if k.Len() != was {
		t.Error("an End that is none was noted")
	}
	run(t, j)
	was = k.Len()
	ends(t, k, 2, untidy(co("f", va(8), va(3), va(8))))
	if got := entryTexts(k.Since(was)); got != `2 '$end'(f(_1,_2,_1)) = yes` {
		t.Errorf("noted: %s", got)
	}
	for _, u := range []api.Term{tower(va(3), "s", 95), sized(1990, va(1)), va(9), nu(math.MinInt64)} {
		k := roomyKernel(t, 2)
		ends(t, k, 1, u)
		settles(t, k, 2, `thread_join(1, S)`, `thread_join(1,`+text(renamed(u))+`)`)
	}
}

// P20.2: who is gone leaves room for another one, that does all that the first ones could, whatever its number.
func TestManyThreads(t *testing.T) {
	k := made(t, api.Conf{Threads: 3, Cells: 5000, Limbo: 8}, 3)
	clauses := 0
	for n := 1; n <= 40; n++ {
		settlesGoal(t, k, n, co("out", nu(int64(n))), `yes`)
		clauses++
		c := strconv.Itoa(clauses)
		does(t, k, n, `assertz(p(`+c+`))`, `yes`, `'$add'(:-(p(`+c+`),true),`+c+`)`)
		ends(t, k, n, nu(int64(n*n)))
		waiting := begun(t, k, n+1, goalOf(t, `assertz(q)`))
		waiting.Step()
		other := begun(t, k, n+2, co("thread_join", nu(int64(n)), va(1)))
		run(t, other)
		spawns(t, k, co("g", nu(int64(n+3))), n+3)
		added := begun(t, k, n+3, goalOf(t, `asserta(r)`))
		for !waiting.Over() || !added.Over() {
			waiting.Step()
			added.Step()
		}
		clauses += 2
		if !waiting.Reply().Ok || !added.Reply().Ok || replyText(other.Reply()) != `thread_join(`+strconv.Itoa(n)+`,`+strconv.Itoa(n*n)+`)` {
			t.Fatalf("behind %d threads: %s, %s, %s", n, replyText(waiting.Reply()), replyText(added.Reply()), replyText(other.Reply()))
		}
	}
	if !slices.Equal(k.Ready(), []int{41, 42, 43}) || k.Faults() != 0 {
		t.Errorf("Ready = %v, %d faults", k.Ready(), k.Faults())
	}
	for n := 1; n <= 40; n++ {
		if l := k.Lines(n); len(l) != 1 || !same(l[0], nu(int64(n))) || k.State(n) != 0 {
			t.Errorf("the lines of thread %d: %v", n, l)
		}
		if n > 3 && !same(k.Goal(n), co("g", nu(int64(n)))) {
			t.Errorf("the goal of thread %d: %s", n, text(k.Goal(n)))
		}
	}
}

// P20.2: threads that come and go do all beside one that stays within an operation, whatever their numbers.
func TestOneStays(t *testing.T) {
	k := made(t, api.Conf{Threads: 3, Cells: 5000, Limbo: 64}, 3)
	does(t, k, 1, `assertz(p(1))`, `yes`, `'$add'(:-(p(1),true),1)`)
	one := begun(t, k, 1, goalOf(t, `p(X)`))
	for k.Len() == 1 {
		one.Step()
	}
	for n := 3; n <= 40; n++ {
		two := begun(t, k, 2, goalOf(t, `clause(p(X), B)`))
		two.Step()
		id := strconv.Itoa(n - 1)
		does(t, k, n, `assertz(q(`+id+`))`, `yes`, `'$add'(:-(q(`+id+`),true),`+id+`)`)
		ends(t, k, n, at("x"))
		run(t, two)
		settles(t, k, 2, `thread_join(`+strconv.Itoa(n)+`, S)`, `thread_join(`+strconv.Itoa(n)+`,x)`)
		spawns(t, k, at("g"), n+1)
	}
	run(t, one)
	if got := replyText(one.Reply()); got != `:-(p(1),true)` || k.Faults() != 0 {
		t.Errorf("the one who has stayed is told %s", got)
	}
}

// P20.2: two kernels share nothing.
func TestTwoKernels(t *testing.T) {
	a, b := roomyKernel(t, 2, pred("s", 0)), roomyKernel(t, 1)
	does(t, a, 1, `assertz(p)`, `yes`, `'$add'(:-(p,true),1)`)
	settles(t, a, 1, `message_queue_create(Q)`, `message_queue_create(1)`)
	settles(t, a, 1, `mutex_create(M)`, `mutex_create(1)`)
	settles(t, b, 1, `p`, noneBall(`procedure`, `/(p,0)`))
	settles(t, b, 1, `thread_send_message(1, m)`, noneBall(`message_queue`, `1`))
	settles(t, b, 1, `mutex_lock(1)`, noneBall(`mutex`, `1`))
	settles(t, b, 1, `thread_join(2, S)`, noneBall(`thread`, `2`))
	does(t, b, 1, `assertz(s)`, `yes`, `'$add'(:-(s,true),1)`)
	settles(t, a, 1, `assertz(s)`, permBall(`modify`, `static_procedure`, `/(s,0)`))
}
