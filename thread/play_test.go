package thread_test

import (
	"maps"
	"math/rand"
	"slices"
	"testing"

	"pythia/api"
)

// one is one of some.
func one[T any](r *rand.Rand, of ...T) T { return of[r.Intn(len(of))] }

// anyTerm is some term at most so deep, over few symbols.
func anyTerm(r *rand.Rand, depth int) api.Term {
	switch k := r.Intn(10); {
	case k < 4:
		return va(1 + int64(r.Intn(4)))
	case k < 6:
		return nu(1 + int64(r.Intn(3)))
	case k < 8 || depth < 2:
		return at(one(r, "a", "b"))
	}
	return co("f", anyTerm(r, depth-1), anyTerm(r, depth-1))
}

// anyNumber is mostly a small number, such as there may be a thing of.
func anyNumber(r *rand.Rand) api.Term {
	if r.Intn(10) == 0 {
		return one(r, va(4), at("a"), nu(-1), nu(1<<40))
	}
	return nu(1 + int64(r.Intn(3)))
}

// anyAsk is some goal that the kernel does.
func anyAsk(r *rand.Rand) api.Term {
	d := co("d", anyTerm(r, 2))
	switch r.Intn(22) {
	case 0, 1:
		return co(one(r, "assertz", "asserta"), d)
	case 2:
		return co("assertz", co(":-", d, one(r, at("true"), at("!"), co("p", va(1)), co("d", va(1)), va(2))))
	case 3, 4:
		return co("retract", one(r, d, co(":-", d, va(3))))
	case 5:
		return co("clause", d, anyTerm(r, 1))
	case 6, 7, 8:
		return d
	case 9, 10:
		return co("thread_send_message", anyNumber(r), anyTerm(r, 2))
	case 11, 12:
		return co("thread_get_message", anyNumber(r), anyTerm(r, 1))
	case 13:
		return co("thread_peek_message", anyNumber(r), anyTerm(r, 2))
	case 14:
		return one(r, co("message_queue_create", va(2), nu(2)), co("message_queue_create", va(2)), co("message_queue_destroy", anyNumber(r)))
	case 15, 16:
		return co(one(r, "mutex_lock", "mutex_unlock"), anyNumber(r))
	case 17:
		return one(r, co("mutex_create", va(3)), co("mutex_destroy", anyNumber(r)))
	case 18:
		return co("thread_create", anyBody(r, 2), va(4))
	case 19:
		return co("thread_join", anyNumber(r), anyTerm(r, 2))
	case 20:
		return one(r, co("thread_self", va(1)), at("nobody"))
	}
	return co("out", anyTerm(r, 2))
}

// anyLeaf is some goal without goals in it.
func anyLeaf(r *rand.Rand) api.Term {
	switch r.Intn(14) {
	case 0, 1:
		return co("p", anyTerm(r, 1))
	case 2:
		return co("q", anyTerm(r, 1), anyTerm(r, 1))
	case 3:
		return co(one(r, "=", `\=`, "==", "<", "is"), anyTerm(r, 1), anyTerm(r, 2))
	case 4:
		return one(r, at("!"), at("fail"), at("!"))
	case 5:
		return one(r, co("throw", anyTerm(r, 2)), va(1), co("call", va(2)))
	}
	return anyAsk(r)
}

// anyBody is some body at most so deep.
func anyBody(r *rand.Rand, depth int) api.Term {
	if depth < 2 {
		return anyLeaf(r)
	}
	a, b := anyBody(r, depth-1), anyBody(r, depth-1-r.Intn(2))
	switch k := r.Intn(16); {
	case k < 9:
		return co(",", a, b)
	case k < 11:
		return co(";", a, b)
	case k < 12:
		return co(";", co("->", a, b), anyBody(r, depth-1))
	case k < 13:
		return co(`\+`, a)
	}
	return co("catch", a, anyTerm(r, 1), b)
}

// anyProgram is some program.
func anyProgram(r *rand.Rand) []api.Clause {
	all := []api.Clause{cl(co("p", nu(1)), at("true")), cl(co("p", nu(2)), at("true"))}
	for range 1 + r.Intn(5) {
		head := one(r, co("p", anyTerm(r, 1)), co("q", anyTerm(r, 2), anyTerm(r, 1)))
		all = append(all, cl(head, anyBody(r, 1+r.Intn(3))))
	}
	return all
}

// anyWatch is some program with some threads' goals; beside them one that makes things that they ask for.
func anyWatch(t *testing.T, r *rand.Rand) *watch {
	t.Helper()
	c := api.Conf{Threads: 2 + r.Intn(7), Cells: one(r, 70, 90, 2000), Limbo: one(r, 0, 1, 2, 20)}
	l := roomyLimits()
	if r.Intn(3) == 0 {
		l = api.Limits{Heap: 10 + r.Intn(60), Stack: r.Intn(6), Trail: 3 + r.Intn(20)}
	}
	goals := []api.Term{goalOf(t, `(message_queue_create(Q, 1), mutex_create(M), message_queue_create(R), assertz(d(1)), asserta(d(2)), thread_send_message(R, a), mutex_lock(M))`)}
	for len(goals) < c.Threads && r.Intn(6) > 0 {
		goals = append(goals, anyBody(r, 2+r.Intn(3)))
	}
	return newWatch(t, c, anyProgram(r), l, goals...)
}

// play steps threads in some order, at most so many steps.
func (w *watch) play(r *rand.Rand, most int) {
	w.t.Helper()
	for range 30 {
		w.step(1)
	}
	for most > 0 && len(w.twin.Ready()) > 0 {
		n := one(r, w.twin.Ready()...)
		if r.Intn(5) == 0 {
			n = one(r, slices.Sorted(maps.Keys(w.threads))...)
		}
		for range 1 + r.Intn(10) {
			w.step(n)
			most--
		}
	}
}

// P21.1, P21.2: threads of one kernel, stepped by turns in a great many orders: each step does what it is to do, and each thread tells what the rules of layer 19 say, fed with what the kernel has told.
func TestManyOrders(t *testing.T) {
	r := rand.New(rand.NewSource(211))
	met := map[string]int{}
	for range 1500 {
		w := anyWatch(t, r)
		w.play(r, 200+r.Intn(400))
		w.close()
		if r.Intn(2) == 0 {
			w.turns(300)
			w.close()
		}
		for what, n := range w.met {
			met[what] += n
		}
	}
	for _, what := range []string{"reply yes", "reply no", "reply alts", "reply ball", "waits", "in vain", "yes", "no", "ball", "limit"} {
		if met[what] < 100 || met["ruled"] < 20*met["beyond the rules"] {
			t.Errorf("too little was played: %v", met)
			break
		}
	}
}

// P21.1: the same threads in other orders: each of them tells what the rules say, whatever it was told.
func TestOtherOrders(t *testing.T) {
	program := clauses(t, `take(X) :- retract(d(X)), out(X), take(_). take(none).
		put(N) :- N > 0, assertz(d(N)), thread_send_message(1, N), M is N - 1, put(M). put(0).
		get(0). get(N) :- thread_get_message(1, X), mutex_lock(1), out(got(X)), mutex_unlock(1), M is N - 1, get(M).`)
	goals := []api.Term{
		goalOf(t, `(message_queue_create(Q, 1), mutex_create(M), thread_create(put(4), A), thread_create(get(4), B), thread_join(A, S), thread_join(B, T), take(X))`),
		goalOf(t, `(take(X), take(Y))`),
		goalOf(t, `catch((d(X), X > 2, throw(d(X))), d(Y), out(Y))`),
	}
	lasts := map[string]int{}
	for seed := range int64(200) {
		r := rand.New(rand.NewSource(seed))
		w := newWatch(t, conf(), program, roomyLimits(), goals...)
		for steps := 0; steps < 20000 && len(w.twin.Ready()) > 0; steps++ {
			n := one(r, w.twin.Ready()...)
			for range 1 + r.Intn(1+int(seed)/10) {
				w.step(n)
			}
		}
		w.close()
		for n := 1; n <= 5; n++ {
			if !w.threads[n].over {
				t.Fatalf("seed %d: thread %d isn't over", seed, n)
			}
		}
		lasts[lineText(w.threads[3].last)]++
	}
	if len(lasts) < 3 {
		t.Errorf("all orders have come to the same: %v", lasts)
	}
}
