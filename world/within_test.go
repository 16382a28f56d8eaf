package world_test

import (
	"maps"
	"math/rand"
	"slices"
	"strconv"
	"testing"

	"pythia/world"
)

// filling is a program whose goal fill(N) adds N clauses.
const filling = `fill(0). fill(N) :- assertz(d(N)), M is N - 1, fill(M).`

// promised is within how many steps of theirs one of k operations is over, where the longest chain has n numbers (chapter 5).
func promised(k, n int) int { return k * (k + 1) * (2*(n+k) + 16) }

// isWithin tells whether a thread is within an operation of the DB, if it asks for nothing else.
func isWithin(w *world.World, n int) bool { return w.Asks(n).Kind != 0 }

// chainLength is how many clauses of d/1 there are, by the log, of which so many entries have been looked at.
type chainLength struct{ noted, now int }

func (c *chainLength) of(w *world.World) int {
	if w.Len() == c.noted {
		return c.now
	}
	for _, e := range w.Log()[c.noted:] {
		switch {
		case e.Ask.Name == "$add" || e.Ask.Name == "$push":
			c.now++
		case e.Ask.Name == "$cut" && e.Reply.Ok:
			c.now--
		}
	}
	c.noted = w.Len()
	return c.now
}

// halfWay is a world with so many clauses, and the threads that are each some steps within an operation.
func halfWay(t *testing.T, r *rand.Rand, filled int, goals ...string) (*world.World, []int) {
	t.Helper()
	own := slices.Clone(goals)
	own[0] = `assertz(d(0)), retract(d(0)), fill(` + strconv.Itoa(filled) + `), out(filled), ` + own[0]
	w := made(t, filling, own...)
	pickTill(t, w, 1, func() bool { return len(w.Lines(1)) == 1 })
	for i := range goals {
		pickTill(t, w, i+1, func() bool { return isWithin(w, i+1) })
	}
	var within []int
	for i := range goals {
		for range r.Intn(12) {
			if isWithin(w, i+1) && !w.Pick(i+1) {
				t.Fatalf("thread %d, within an operation, has to wait:\n%s", i+1, view(w))
			}
		}
		if isWithin(w, i+1) {
			within = append(within, i+1)
		}
	}
	return w, within
}

// orders are ways to pick one of those who are within operations.
func orders(r *rand.Rand) map[string]func(within []int, steps int) int {
	chosen, left := 0, 0
	return map[string]func(within []int, steps int) int{
		"the first alone": func(within []int, steps int) int { return within[0] },
		"the last alone":  func(within []int, steps int) int { return within[len(within)-1] },
		"by turns":        func(within []int, steps int) int { return within[steps%len(within)] },
		"any":             func(within []int, steps int) int { return one(r, within...) },
		"in pieces": func(within []int, steps int) int {
			if left--; left < 0 || !slices.Contains(within, chosen) {
				chosen, left = one(r, within...), r.Intn(12)
			}
			return chosen
		},
	}
}

// getOut picks those who are within operations, in an order, till all are out, and fails, if the next one isn't out within the steps that are promised, so many times as many as an operation has.
func getOut(t *testing.T, w *world.World, within []int, times int, order string, next func([]int, int) int) {
	t.Helper()
	var length chainLength
	steps, n := 0, length.of(w)
	for len(within) > 0 {
		chosen := next(within, steps)
		if !w.Pick(chosen) {
			t.Fatalf("%s: thread %d, within an operation, has to wait in state %d", order, chosen, w.State(chosen))
		}
		steps++
		n = max(n, length.of(w))
		if most := times * promised(len(within), n); steps > most {
			t.Fatalf("%s: none of %v is out of its operation within %d steps", order, within, most)
		}
		if !isWithin(w, chosen) {
			within = slices.DeleteFunc(within, func(m int) bool { return m == chosen })
			steps = 0
		}
	}
}

// P22.4, P4: of k threads that are within operations of the DB, one gets out within as many steps of theirs as layer 5 promises, in whatever order; those who aren't picked keep nobody waiting.
func TestWithin(t *testing.T) {
	r := rand.New(rand.NewSource(224))
	for range 60 {
		for _, order := range slices.Sorted(maps.Keys(orders(r))) {
			var goals []string
			for range 1 + r.Intn(8) {
				goals = append(goals, one(r, `assertz(d(x))`, `asserta(d(x))`, `d(X)`, `clause(d(X), B)`, `assertz((d(X) :- true))`))
			}
			w, within := halfWay(t, r, one(r, 0, 1, 2, 5, 12), goals...)
			getOut(t, w, within, 1, order, orders(r)[order])
			rests(t, w)
			if w.Faults() != 0 {
				t.Fatalf("%d faults", w.Faults())
			}
		}
	}
}

// P22.4: a retract goes through a few operations: reading, and taking away, till it has taken one away, or there is none left.
func TestWithinRetract(t *testing.T) {
	r := rand.New(rand.NewSource(225))
	for range 40 {
		for _, order := range slices.Sorted(maps.Keys(orders(r))) {
			var goals []string
			for range 2 + r.Intn(7) {
				goals = append(goals, one(r, `retract(d(X))`, `retract(d(1))`, `retract(d(2))`, `assertz(d(1))`, `d(X)`))
			}
			filled := one(r, 1, 2, 5)
			w, within := halfWay(t, r, filled, goals...)
			getOut(t, w, within, 1+filled+len(goals), order, orders(r)[order])
			rests(t, w)
			if w.Faults() != 0 {
				t.Fatalf("%d faults", w.Faults())
			}
		}
	}
}

// P22.4: reading is over within its own steps, whatever the others do between any two of them.
func TestReadingAmongChanges(t *testing.T) {
	r := rand.New(rand.NewSource(226))
	for range 200 {
		filled := r.Intn(8)
		w := made(t, filling+` stir(0). stir(N) :- assertz(d(N)), asserta(d(x)), retract(d(Y)), retract(d(Z)), M is N - 1, stir(M).`,
			`fill(`+strconv.Itoa(filled)+`), out(filled), d(X)`, `assertz(d(a)), stir(40)`, `assertz(d(b)), stir(40)`)
		pickTill(t, w, 1, func() bool { return len(w.Lines(1)) == 1 })
		for n := 2; n <= 3; n++ {
			pickTill(t, w, n, func() bool { return len(w.Talk(n)) > 0 })
		}
		pickTill(t, w, 1, func() bool { return isWithin(w, 1) })
		steps := 1
		for ; isWithin(w, 1); steps++ {
			for range r.Intn(60) {
				w.Pick(2 + r.Intn(2))
			}
			w.Pick(1)
		}
		talk := w.Talk(1)
		reply := talk[len(talk)-1].Reply
		if most := 2*(len(reply.Alts)+1) + 16; steps > most {
			t.Fatalf("reading %d clauses has taken %d steps of its own, not %d", len(reply.Alts), steps, most)
		}
		if w.Faults() != 0 {
			t.Fatalf("%d faults", w.Faults())
		}
	}
}
