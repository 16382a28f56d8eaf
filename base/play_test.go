package base_test

import (
	"math/rand"
	"testing"

	"pythia/api"
)

// some are clauses of four predicates.
func some(r *rand.Rand) api.Clause {
	name := []string{"p", "q"}[r.Intn(2)]
	if r.Intn(2) == 0 {
		return cl(at(name), co("b", anyTerm(r, 2)))
	}
	return cl(co(name, anyTerm(r, 3)), co("b", anyTerm(r, 3)))
}

// one begins some operation.
func (w *watch) one(r *rand.Rand, threads int) *watched {
	w.t.Helper()
	thread := 1 + r.Intn(threads)
	if r.Intn(30) == 0 {
		thread = []int{0, 9, -1}[r.Intn(3)]
	}
	p := pred([]string{"p", "q"}[r.Intn(2)], r.Intn(2))
	switch kind := r.Intn(4); kind {
	case erase:
		id := 1 + w.last - int64(r.Intn(8))
		if l := w.plain[p]; l != nil && len(l.found) > 0 && r.Intn(3) > 0 {
			id = l.found[r.Intn(len(l.found))].Id
		}
		return w.erase(thread, p, id)
	case all:
		return w.all(thread, p)
	default:
		return w.assert(thread, some(r), kind)
	}
}

// P16.1, P16.3, P16.4: many operations of many threads, begun and stepped in a great many orders, with much and little room, high and low bounds.
func TestManyOrders(t *testing.T) {
	r := rand.New(rand.NewSource(161))
	ended := map[api.Errno]int{}
	for range 150 {
		threads := 1 + r.Intn(8)
		w := newWatch(t, 64+r.Intn(150), r.Intn(10))
		for range 200 {
			if len(w.way) < 2*threads && r.Intn(2) == 0 {
				w.one(r, threads)
			}
			if len(w.way) > 0 {
				w.steal(w.way[r.Intn(len(w.way))], r.Intn(20))
			}
		}
		w.turns()
		for e, n := range w.ended {
			ended[e] += n
		}
	}
	for _, e := range []api.Errno{api.OK, api.ErrArg, api.ErrInside, api.ErrLimbo, api.ErrFull} {
		if ended[e] < 50 {
			t.Errorf("too little was played: %v", ended)
		}
	}
}

// P16.1, P16.3: two operations, of which one is left at any of its steps, the other too, and taken up again; on a predicate that is new, was there, or has clauses.
func TestManyPlaces(t *testing.T) {
	begin := []func(w *watch, thread int) *watched{
		func(w *watch, thread int) *watched { return w.assert(thread, pa, front) },
		func(w *watch, thread int) *watched { return w.assert(thread, pb, behind) },
		func(w *watch, thread int) *watched { return w.erase(thread, p1, 1) },
		func(w *watch, thread int) *watched { return w.erase(thread, p1, 2) },
		func(w *watch, thread int) *watched { return w.all(thread, p1) },
		func(w *watch, thread int) *watched { return w.all(thread, p0) },
	}
	for there := range 3 {
		for _, one := range begin {
			for _, two := range begin {
				for n := range 12 * 12 {
					w := newWatch(t, 500, 8)
					for range there {
						w.assert(3, pc, behind)
						w.turns()
					}
					x, y := one(w, 1), two(w, 2)
					w.steal(x, n%12)
					w.steal(y, n/12)
					w.steal(x, 4)
					w.steal(y, 1000)
					w.turns()
				}
			}
		}
	}
}

// P2: what is answered doesn't hang on a map's order.
func TestAlways(t *testing.T) {
	for range 20 {
		d := roomyDB(t)
		for i := range 20 {
			adds(t, d, false, fact(at(string(rune('z'-i)))))
		}
		for i, p := range d.Preds() {
			if p.Name != string(rune('z'-i)) {
				t.Fatalf("Preds = %v", d.Preds())
			}
		}
	}
}

// P16.4: no two lists of an answer share memory, nor of two answers, also where those of the clause did.
func TestApart(t *testing.T) {
	d := roomyDB(t)
	u := doubled(va(1), 3)
	adds(t, d, false, cl(co("p", u), u), cl(co("p", u), u))
	seen := map[*api.Term]int{}
	o := d.All(1, p1)
	run(o)
	for range 2 {
		for _, f := range append(d.List(p1), o.Answer().Found...) {
			apart(t, seen, f.Clause.Head, f.Clause.Body)
		}
	}
}

// P16.4: a clause is kept without what its kinds don't name.
func TestTidy(t *testing.T) {
	d := roomyDB(t)
	adds(t, d, false, cl(untidy(co("p", va(3))), untidy(co("q", nu(1), at("a")))))
	got := d.List(p1)[0].Clause
	if !sameClause(got, cl(co("p", va(1)), co("q", nu(1), at("a")))) {
		t.Errorf("%v", got)
	}
}
