package kernel_test

import (
	"maps"
	"math/rand"
	"slices"
	"strings"
	"testing"

	"pythia/api"
)

// one is one of some.
func one[T any](r *rand.Rand, of ...T) T { return of[r.Intn(len(of))] }

// anyTerm is some term at most so deep, over few symbols.
func anyTerm(r *rand.Rand, depth int) api.Term {
	k := r.Intn(8)
	switch {
	case k < 2:
		return va(1 + int64(r.Intn(3)))
	case k < 4:
		return nu(int64(r.Intn(3)))
	case k < 6 || depth < 2:
		return at(one(r, "a", "b"))
	}
	return co("f", anyTerm(r, depth-1), anyTerm(r, depth-1))
}

// anyClause is some term that is a clause, or nearly one.
func anyClause(r *rand.Rand) api.Term {
	var head api.Term
	switch k := r.Intn(20); {
	case k < 12:
		head = co("p", anyTerm(r, 2))
	case k < 16:
		head = at("q")
	case k < 18:
		head = co("s", anyTerm(r, 1))
	case k < 19:
		head = one(r, va(1), nu(3), at("true"), co("call", va(2)))
	default:
		head = co(one(r, "p", "out", "u"), anyTerm(r, 2), anyTerm(r, 1))
	}
	if r.Intn(2) == 0 {
		return head
	}
	return co(":-", head, anyTerm(r, 2))
}

// anyNumber is mostly the number of one of those that there are.
func anyNumber[T int | int64](r *rand.Rand, there []T) api.Term {
	switch {
	case r.Intn(12) == 0:
		return one(r, va(2), at("a"), co("f", va(1)))
	case r.Intn(12) == 0 || len(there) == 0:
		return nu(one[int64](r, 0, -1, 1, 2, 3, 9, 1<<40, 1<<32+1))
	}
	return nu(int64(one(r, there...)))
}

// anyGoal is some goal.
func (w *watch) anyGoal(r *rand.Rand) api.Term {
	threads, queues, mutexes := slices.Sorted(maps.Keys(w.plain.state)), slices.Sorted(maps.Keys(w.plain.queues)), slices.Sorted(maps.Keys(w.plain.mutexes))
	switch k := r.Intn(40); {
	case k < 6:
		return co(one(r, "assertz", "asserta"), anyClause(r))
	case k < 11:
		return co("retract", anyClause(r))
	case k < 13:
		return co("clause", one(r, co("p", anyTerm(r, 2)), at("q"), co("s", va(1)), va(1), nu(1)), anyTerm(r, 2))
	case k < 16:
		return one(r, co("p", anyTerm(r, 2)), at("q"), co("u", va(1), va(2)), at("nobody"))
	case k < 19:
		return co("thread_send_message", anyNumber(r, queues), anyTerm(r, 2))
	case k < 22:
		return co("thread_get_message", anyNumber(r, queues), anyTerm(r, 2))
	case k < 24:
		return co("thread_peek_message", anyNumber(r, queues), anyTerm(r, 2))
	case k < 26:
		return co("mutex_lock", anyNumber(r, mutexes))
	case k < 28:
		return co("mutex_unlock", anyNumber(r, mutexes))
	case k < 29:
		return co("mutex_destroy", anyNumber(r, mutexes))
	case k < 30:
		return co("mutex_create", anyTerm(r, 1))
	case k < 31:
		return co("message_queue_create", anyTerm(r, 1))
	case k < 32:
		return co("message_queue_create", anyTerm(r, 1), anyTerm(r, 1))
	case k < 33:
		return co("message_queue_destroy", anyNumber(r, queues))
	case k < 35:
		return co("thread_join", anyNumber(r, threads), va(1))
	case k < 37:
		return co("thread_create", anyTerm(r, 2), va(1))
	case k < 38:
		return co("thread_self", va(1))
	case k < 39:
		return one(r, co("out", tower(anyTerm(r, 1), "s", 97)), co("assertz", co("p", tower(va(1), "s", 96))))
	}
	return co("out", anyTerm(r, 3))
}

// play plays something: a thread that is made, ended, begins a goal, or goes on. False, if whoever is there sleeps for good.
func (w *watch) play(r *rand.Rand) bool {
	w.t.Helper()
	ready := w.plain.ready()
	if len(ready) == 0 || r.Intn(60) == 0 {
		return w.spawn(anyTerm(r, 2)) > 0 || len(ready) > 0
	}
	t := one(r, ready...)
	x := w.way[t]
	switch {
	case x != nil:
		w.steal(x, 1+r.Intn(12))
	case r.Intn(25) == 0:
		w.end(t, anyTerm(r, 2))
	default:
		w.begin(t, w.anyGoal(r))
	}
	return true
}

// P20.1 to P20.4: jobs of many threads, begun and stepped in a great many orders, with much and little room, high and low bounds.
func TestManyOrders(t *testing.T) {
	r := rand.New(rand.NewSource(201))
	told := map[string]int{}
	for range 600 {
		c := api.Conf{Threads: 1 + r.Intn(8), Cells: one(r, 64, 70, 80, 100, 2000), Limbo: one(r, 0, 1, 2, 3, 20)}
		w := newWatch(t, c, pred("s", 1))
		w.spawn(at("main"))
		for range 300 {
			if !w.play(r) {
				break
			}
		}
		w.turns()
		w.close()
		for what, n := range w.told {
			told[what] += n
		}
	}
	for _, what := range wanted() {
		if told[what] < 10 {
			t.Errorf("too little was played: %d times %s", told[what], what)
		}
	}
	if t.Failed() {
		for _, what := range slices.Sorted(maps.Keys(told)) {
			t.Log(what, told[what])
		}
	}
}

// wanted is what is to come up in many orders.
func wanted() []string {
	var all []string
	for goal, kinds := range map[string]string{
		"assertz":               "yes inst callable modify cells",
		"asserta":               "yes inst callable modify cells",
		"retract":               "no alts inst callable modify cells",
		"clause":                "no alts inst callable access",
		"goal":                  "no alts procedure",
		"thread_self":           "alts",
		"thread_create":         "alts inst callable threads",
		"thread_join":           "alts inst integer join thread",
		"message_queue_create":  "alts inst integer",
		"message_queue_destroy": "yes inst integer message_queue",
		"thread_send_message":   "yes inst integer message_queue",
		"thread_get_message":    "alts inst integer message_queue",
		"thread_peek_message":   "alts no inst integer message_queue",
		"mutex_create":          "alts",
		"mutex_lock":            "yes inst integer mutex",
		"mutex_unlock":          "yes unlock inst integer mutex",
		"mutex_destroy":         "yes destroy inst integer mutex",
		"out":                   "yes term",
		"waits":                 "thread queue mutex",
	} {
		for _, kind := range strings.Fields(kinds) {
			all = append(all, goal+" "+kind)
		}
	}
	return all
}

// P20.1, P20.2, P20.4: threads that add, take away and tell the clauses of one predicate at once, by few steps each.
func TestContention(t *testing.T) {
	r := rand.New(rand.NewSource(202))
	told := map[string]int{}
	for range 300 {
		w := newWatch(t, api.Conf{Threads: 2 + r.Intn(7), Cells: one(r, 90, 150, 4000), Limbo: one(r, 1, 2, 8, 64)})
		for w.spawn(at("main")) > 0 {
		}
		for range 500 {
			n := one(r, w.plain.ready()...)
			if x := w.way[n]; x != nil {
				w.steal(x, 1+r.Intn(4))
				continue
			}
			p := co("p", one(r, va(1), va(1), nu(int64(r.Intn(3)))))
			w.begin(n, one(r, co("assertz", p), co("asserta", co(":-", p, at("b"))), co("retract", p), co("retract", co(":-", p, va(2))), co("clause", p, at("true")), p))
		}
		w.turns()
		w.close()
		for what, n := range w.told {
			told[what] += n
		}
	}
	for _, what := range []string{"retract beaten", "retract alts", "retract no", "retract cells", "assertz yes", "assertz cells", "asserta yes", "clause alts", "clause no", "goal alts", "goal no"} {
		if told[what] < 100 {
			t.Errorf("too little was played: %d times %s", told[what], what)
		}
	}
}

// P20.1 to P20.4: two jobs, of which one is left at any of its steps, the other too, and taken up again; each goal beside each.
func TestManyPlaces(t *testing.T) {
	goals := goalsOf(t, `assertz(p(4))`, `asserta(p(0))`, `retract(p(X))`, `retract((p(X) :- a))`, `retract(p(9))`, `clause(p(X), true)`, `p(X)`, `q`,
		`thread_send_message(2, n)`, `thread_get_message(2, X)`, `thread_get_message(1, X)`, `thread_send_message(1, m)`, `message_queue_destroy(2)`, `mutex_lock(1)`, `mutex_destroy(1)`, `out(x)`)
	before := goalsOf(t, `assertz(p(1))`, `assertz((p(2) :- a))`, `message_queue_create(Q, 1)`, `message_queue_create(Q, 1)`, `thread_send_message(2, m)`, `mutex_create(M)`)
	for _, a := range goals {
		for _, b := range goals {
			for i, left := 0, true; left; i++ {
				for j, left2 := 0, true; left2; j++ {
					left, left2 = twoLeft(t, before, a, b, i, j)
				}
			}
		}
	}
}

// twoLeft plays two jobs, that are left behind so many steps; it tells whether there was something left of each.
func twoLeft(t *testing.T, before []api.Term, a, b api.Term, i, j int) (bool, bool) {
	t.Helper()
	w := newWatch(t, api.Conf{Threads: 3, Cells: 500, Limbo: 2})
	for range 3 {
		w.spawn(at("main"))
	}
	for _, g := range before {
		w.steal(w.begin(3, g), 100)
	}
	x, y := w.begin(1, a), w.begin(2, b)
	w.steal(x, i)
	left := w.goesOn(x)
	w.steal(y, j)
	left2 := w.goesOn(y)
	w.steal(x, 5)
	w.steal(y, 100)
	w.turns()
	w.close()
	return left, left2
}

// goesOn tells whether a job could do a step more.
func (w *watch) goesOn(x *watched) bool { return !x.over && w.plain.state[x.thread] == 1 }
