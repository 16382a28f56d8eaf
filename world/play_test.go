package world_test

import (
	"math"
	"math/rand"
	"strings"
	"testing"

	"pythia/api"
	"pythia/base"
)

// anyTerm is some term at most so deep, over few symbols.
func anyTerm(r *rand.Rand, depth int) api.Term {
	switch k := r.Intn(10); {
	case k < 4:
		return va(1 + int64(r.Intn(4)))
	case k < 6:
		return nu(1 + int64(r.Intn(3)))
	case k < 8 || depth < 2:
		return at(one(r, "a", "b c"))
	}
	return co("f", anyTerm(r, depth-1), anyTerm(r, depth-1))
}

// anyNumber is mostly a small number, such as there may be a thing of.
func anyNumber(r *rand.Rand) api.Term {
	if r.Intn(10) == 0 {
		return one(r, va(4), at("a"), nu(-1), nu(1<<40))
	}
	return nu(1 + int64(r.Intn(3)))
}

// anyAsk is some goal that the kernel does.
func anyAsk(r *rand.Rand) api.Term {
	d := co("d", anyTerm(r, 2))
	switch r.Intn(24) {
	case 0, 1:
		return co(one(r, "assertz", "asserta"), one(r, d, d, d, co("p", va(1)), co("q", va(1), va(2)), co(":-", va(1), d)))
	case 2:
		return co("assertz", co(":-", d, one(r, at("true"), at("!"), co("p", va(1)), co("d", va(1)), va(2))))
	case 3, 4:
		return co("retract", one(r, d, co(":-", d, va(3)), co("d", va(4)), co("p", va(1))))
	case 5:
		return co("clause", one(r, d, d, d, va(1), co("p", va(1))), anyTerm(r, 1))
	case 6, 7, 8:
		return d
	case 9, 10:
		return co("thread_send_message", anyNumber(r), anyTerm(r, 2))
	case 11, 12:
		return co("thread_get_message", anyNumber(r), anyTerm(r, 1))
	case 13:
		return co("thread_peek_message", anyNumber(r), anyTerm(r, 2))
	case 14:
		return one(r, co("message_queue_create", va(2), nu(2)), co("message_queue_create", va(2)), co("message_queue_destroy", anyNumber(r)))
	case 15, 16:
		return co(one(r, "mutex_lock", "mutex_unlock"), anyNumber(r))
	case 17:
		return one(r, co("mutex_create", va(3)), co("mutex_destroy", anyNumber(r)))
	case 18, 22, 23:
		return co("thread_create", anyBody(r, 2), va(4))
	case 19:
		return co("thread_join", anyNumber(r), anyTerm(r, 2))
	case 20:
		return one(r, co("thread_self", va(1)), at("nobody"))
	}
	return co("out", anyTerm(r, 2))
}

// anyLeaf is some goal without goals in it.
func anyLeaf(r *rand.Rand) api.Term {
	switch r.Intn(14) {
	case 0, 1:
		return co("p", anyTerm(r, 1))
	case 2:
		return co("q", anyTerm(r, 1), anyTerm(r, 1))
	case 3:
		return co(one(r, "=", `\=`, "==", "<", "is"), anyTerm(r, 1), anyTerm(r, 2))
	case 4:
		return one(r, at("!"), at("fail"), at("!"))
	case 5:
		return one(r, co("throw", anyTerm(r, 2)), va(1), co("call", va(2)))
	}
	return anyAsk(r)
}

// anyBody is some body at most so deep.
func anyBody(r *rand.Rand, depth int) api.Term {
	if depth < 2 {
		return anyLeaf(r)
	}
	a, b := anyBody(r, depth-1), anyBody(r, depth-1-r.Intn(2))
	switch k := r.Intn(16); {
	case k < 9:
		return co(",", a, b)
	case k < 11:
		return co(";", a, b)
	case k < 12:
		return co(";", co("->", a, b), anyBody(r, depth-1))
	case k < 13:
		return co(`\+`, a)
	}
	return co("catch", a, anyTerm(r, 1), b)
}

// anyProgram is some program, as text.
func anyProgram(r *rand.Rand) string {
	text := "p(1). p(2). "
	for range 1 + r.Intn(5) {
		head := one(r, co("p", anyTerm(r, 1)), co("q", anyTerm(r, 2), anyTerm(r, 1)))
		text += termText(base.Term(api.Clause{Head: head, Body: anyBody(r, 1+r.Intn(3))})) + " .\n"
	}
	return text
}

// anyGoal is some goal of a thread, as text.
func anyGoal(r *rand.Rand) string {
	for {
		if g := anyBody(r, 2+r.Intn(3)); g.Kind >= api.Atom {
			return termText(g)
		}
	}
}

// anyWatch is a world of some program with some threads' goals; beside them one that makes things that they ask for.
func anyWatch(t *testing.T, r *rand.Rand) *watch {
	t.Helper()
	c := api.Conf{Limits: conf().Limits, Threads: 2 + r.Intn(8), Cells: one(r, 70, 90, 2000), Limbo: one(r, 0, 1, 2, 20)}
	if r.Intn(3) == 0 {
		c.Limits = api.Limits{Heap: 10 + r.Intn(60), Stack: r.Intn(6), Trail: 3 + r.Intn(20)}
	}
	goals := []string{`message_queue_create(Q, 1), mutex_create(M), message_queue_create(R), assertz(d(1)), asserta(d(2)), thread_send_message(R, a), mutex_lock(M)`}
	for len(goals) < min(c.Threads, 8) && r.Intn(5) > 0 {
		goals = append(goals, anyGoal(r))
	}
	return newWatch(t, c, anyProgram(r), goals...)
}

// anyNumberOf is the number of some thread, mostly of one that is ready, sometimes of none.
func (x *watch) anyNumberOf(r *rand.Rand) int {
	ready := x.ready()
	switch {
	case r.Intn(20) == 0:
		return one(r, 0, -1, x.w.Threads()+1, math.MaxInt, math.MinInt, 1<<32+1)
	case len(ready) == 0 || r.Intn(5) == 0:
		return 1 + r.Intn(x.w.Threads())
	}
	return one(r, ready...)
}

// plays picks threads in some order, by some of the ways in which a world is told to, at most so many times.
func (x *watch) plays(r *rand.Rand, most int) {
	x.t.Helper()
	for range 30 {
		x.pick(1)
	}
	for most > 0 && len(x.ready()) > 0 {
		switch k := r.Intn(40); {
		case k == 0:
			n := r.Intn(30) - 5
			x.rest(n)
			most -= n
		case k < 4:
			var picks []int
			for range r.Intn(20) {
				picks = append(picks, x.anyNumberOf(r))
			}
			x.play(picks...)
			most -= len(picks)
		default:
			n := x.anyNumberOf(r)
			for range 1 + r.Intn(10) {
				x.pick(n)
				most--
			}
		}
	}
}

// P22.1 to P22.3, P22.5, P5, P6: some programs' threads, picked in a great many orders. At each pick: what is noted is what plain lists, queues and mutexes would be answered, each thread that is blocked has a reason, no fault, and a world that is picked alike tells the same; in the end each thread has told what the rules say.
func TestManyOrders(t *testing.T) {
	r := rand.New(rand.NewSource(222))
	met := map[string]int{}
	for range 1500 {
		x := anyWatch(t, r)
		x.plays(r, 200+r.Intn(400))
		x.close()
		if r.Intn(2) == 0 {
			x.rest(2000)
			x.close()
		}
		for what, n := range x.met {
			met[what] += n
		}
	}
	for _, what := range []string{"reply yes", "reply no", "reply alts", "reply ball", "waits", "in vain", "created", "lacks", "yes", "no", "ball", "limit"} {
		if met[what] < 100 || met["ruled"] < 20*met["beyond the rules"] {
			t.Errorf("too little was played: %v", met)
			break
		}
	}
}

// busy is a program of threads that share clauses, messages and a mutex.
const busy = `take(X) :- retract(d(X)), out(X), take(_). take(none).
	put(N) :- N > 0, assertz(d(N)), thread_send_message(1, N), M is N - 1, put(M). put(0).
	get(0). get(N) :- thread_get_message(1, X), mutex_lock(1), out(got(X)), mutex_unlock(1), M is N - 1, get(M).
	main(X) :- message_queue_create(Q, 1), mutex_create(M), thread_create(put(4), A), thread_create(get(4), B), thread_join(A, S), thread_join(B, T), take(X).`

// P22.1 to P22.3, P22.5: one program in many orders of picks: each thread tells what the rules say, whatever it was told, and all come to rest.
func TestOtherOrders(t *testing.T) {
	lasts := map[string]int{}
	for seed := range int64(200) {
		r := rand.New(rand.NewSource(seed))
		x := newWatch(t, conf(), busy, `main(X)`, `take(X), take(Y)`, `catch((d(X), X > 2, throw(d(X))), d(Y), out(Y))`)
		for picks := 0; picks < 20000 && len(x.ready()) > 0; picks++ {
			n := one(r, x.ready()...)
			for range 1 + r.Intn(1+int(seed)/10) {
				x.pick(n)
			}
		}
		x.close()
		states(t, x.w, 3, 3, 3, 0, 0)
		if x.w.Threads() != 5 || x.met["beyond the rules"] > 0 {
			t.Fatalf("seed %d: %d threads, %v", seed, x.w.Threads(), x.met)
		}
		lasts[strings.ReplaceAll(x.w.Told(1), "\n", " ")+"/"+x.w.Told(2)+"/"+x.w.Told(3)]++
	}
	if len(lasts) < 10 {
		t.Errorf("all orders have come to the same: %v", lasts)
	}
}
