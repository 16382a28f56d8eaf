package world_test

import (
	"math"
	"slices"
	"testing"

	"pythia/api"
	"pythia/thread"
	"pythia/world"
)

// nobody are numbers that no thread of a world has.
func nobody(w *world.World) []int {
	return []int{0, -1, w.Threads() + 1, w.Threads() + 2, 9999, 1<<32 + 1, math.MaxInt, math.MinInt}
}

// inVain fails, if picking a thread isn't false, or changes anything.
func inVain(t *testing.T, w *world.World, n int) {
	t.Helper()
	was := view(w)
	if w.Pick(n) {
		t.Fatalf("thread %d in state %d was picked", n, w.State(n))
	}
	if good, bad := w.Play(n, n, n); good != 0 || bad != 3 {
		t.Fatalf("Play(%d, %d, %d) = %d, %d", n, n, n, good, bad)
	}
	if view(w) != was {
		t.Fatalf("picking thread %d in vain has changed\n%s\ninto\n%s", n, was, view(w))
	}
}

// P22.2: picks of threads that are blocked, over, gone, or that there aren't, do nothing.
func TestInVain(t *testing.T) {
	w := made(t, `p(1). p(2).`, `message_queue_create(Q), p(X), out(X), thread_get_message(Q, X), out(got(X))`, `p(2)`, `thread_join(4, S), out(S)`, `p(Z)`)
	for _, n := range nobody(w) {
		inVain(t, w, n)
	}
	pickOut(t, w, 1)
	pickOut(t, w, 2)
	pickOut(t, w, 3)
	states(t, w, 2, 3, 2, 1)
	pickOut(t, w, 4)
	states(t, w, 2, 3, 1, 3)
	for _, n := range append(nobody(w), 1, 2, 4) {
		inVain(t, w, n)
	}
	pickOut(t, w, 3)
	states(t, w, 2, 3, 3, 0)
	for _, n := range append(nobody(w), 1, 2, 3, 4) {
		inVain(t, w, n)
	}
	tells(t, w, 1, "1\n")
	tells(t, w, 3, "true\nyes ','(thread_join(4,true),out(true))\n")
	tells(t, w, 4, "yes p(1)\n")
}

// P22.1: a pick of a thread that is ready is one step of layer 21: true, also where the thread waits then, or is over.
func TestPick(t *testing.T) {
	program, goal := `p(1). p(2). q(X) :- p(X), assertz(d(X)), d(Y), X = 2.`, `q(X), out(X)`
	w := made(t, program, goal, `true`)
	k := kernelLike(t, program, goal, `true`)
	x, e := thread.New(k, 1, clauses(t, program), conf().Limits)
	if e != api.OK {
		t.Fatal(e)
	}
	for steps := 0; ; steps++ {
		if w.State(1) != k.State(1) || w.Len() != k.Len() || !same(w.Asks(1), k.Asks(1)) || !sameLine(w.Last(1), x.Last()) {
			t.Fatalf("behind %d picks: state %d, %d entries, asks for %s; not %d, %d, %s", steps, w.State(1), w.Len(), termText(w.Asks(1)), k.State(1), k.Len(), termText(k.Asks(1)))
		}
		if x.Over() {
			break
		}
		x.Step()
		if !w.Pick(1) {
			t.Fatalf("pick %d was in vain", steps)
		}
	}
	tells(t, w, 1, "2\nyes ','(q(2),out(2))\n")
	isNew(t, w, 2)
}

// P22.1, P22.2: Play picks one by one, and counts.
func TestPlay(t *testing.T) {
	program := `n(N) :- out(N), M is N + 1, n(M).`
	w, alike := made(t, program, `n(0)`, `n(10)`, `true`), made(t, program, `n(0)`, `n(10)`, `true`)
	plays := func(good, bad int, picks ...int) {
		t.Helper()
		handed := append(slices.Clone(picks), -7)[:len(picks)]
		if g, b := w.Play(handed...); g != good || b != bad {
			t.Fatalf("Play(%v) = %d, %d, not %d, %d", picks, g, b, good, bad)
		}
		if !slices.Equal(handed, picks) || handed[:len(picks)+1][len(picks)] != -7 {
			t.Fatal("the picks are changed")
		}
		for _, n := range picks {
			alike.Pick(n)
		}
		if view(w) != view(alike) {
			t.Fatalf("Play(%v) has come to\n%s\nnot\n%s", picks, view(w), view(alike))
		}
	}
	plays(0, 0)
	plays(0, 0, nil...)
	plays(1, 0, 1)
	plays(0, 1, 4)
	plays(4, 3, 1, 0, 2, -1, 1, math.MaxInt, 2)
	for range 20 {
		plays(7, 1, 1, 1, 2, 2, 2, 1, 1, 9)
	}
	for w.State(3) == 1 {
		plays(2, 0, 3, 1)
	}
	plays(2, 4, 3, 1, 3, 2, 3, 3)
}

// P22.1: Play takes the first MaxPicks picks, whoever they are of.
func TestPlayMost(t *testing.T) {
	for _, c := range []struct {
		first, n  int // so many picks of thread 1, then thread 2's up to n
		good, bad int
		second    int // how many thread 2 has got
	}{
		{api.MaxPicks, api.MaxPicks + 5, api.MaxPicks, 0, 0},
		{api.MaxPicks - 1, api.MaxPicks + 5, api.MaxPicks, 0, 1},
		{api.MaxPicks - 1, api.MaxPicks - 1, api.MaxPicks - 1, 0, 0},
		{api.MaxPicks, api.MaxPicks, api.MaxPicks, 0, 0},
		{api.MaxPicks - 3, 2 * api.MaxPicks, api.MaxPicks, 0, 3},
	} {
		picks := slices.Concat(slices.Repeat([]int{1}, c.first), slices.Repeat([]int{2}, c.n-c.first))
		w, alike := made(t, `l :- l.`, `l`, `out(1), out(2), l`), made(t, `l :- l.`, `l`, `out(1), out(2), l`)
		if good, bad := w.Play(picks...); good != c.good || bad != c.bad {
			t.Errorf("%d and %d picks: %d, %d", c.first, c.n-c.first, good, bad)
		}
		for range c.second {
			alike.Pick(2)
		}
		for range 8 { // what thread 2 still has to do tells how far it has got
			w.Pick(2)
			alike.Pick(2)
			if w.Told(2) != alike.Told(2) || w.Len() != alike.Len() || !same(w.Asks(2), alike.Asks(2)) {
				t.Fatalf("%d and %d picks: thread 2 hasn't got %d", c.first, c.n-c.first, c.second)
			}
		}
	}
	w := made(t, ``, `true`)
	picks := append(slices.Repeat([]int{7}, api.MaxPicks), 1, 1, 1, 1, 1, 1, 1, 1)
	if good, bad := w.Play(picks...); good != 0 || bad != api.MaxPicks {
		t.Errorf("MaxPicks in vain: %d, %d", good, bad)
	}
	isNew(t, w, 1)
	if good, bad := w.Play(picks[8:]...); good == 0 || good+bad != api.MaxPicks || w.State(1) != 3 {
		t.Errorf("fewer in vain: %d, %d", good, bad)
	}
}

// counting is a program whose goal n(N) tells each number from N on.
const counting = `n(N) :- out(N), M is N + 1, n(M).`

// P22.1: Rest picks by rising numbers, round after round, at most so many picks, above MaxPicks as that.
func TestRest(t *testing.T) {
	goals := []string{`n(0)`, `n(100)`, `n(200)`}
	for _, most := range []int{math.MinInt, -1, 0, 1, 2, 3, 4, 5, 6, 7, 100, 101, 102, api.MaxPicks - 1, api.MaxPicks, api.MaxPicks + 1, math.MaxInt} {
		w, alike := made(t, counting, goals...), made(t, counting, goals...)
		if w.Rest(most) {
			t.Fatalf("Rest(%d) of three loops", most)
		}
		var picks []int
		for i := range min(max(most, 0), api.MaxPicks) {
			picks = append(picks, i%3+1)
		}
		alike.Play(picks...)
		if view(w) != view(alike) {
			t.Fatalf("Rest(%d) hasn't picked by turns", most)
		}
	}
}

// P22.1: Rest tells whether nobody is ready then, also without a pick; it needs no more picks than there are to do.
func TestRestTells(t *testing.T) {
	made := func() *world.World {
		return made(t, `p(1). p(2). p(3).`, `p(X), X > 2`, `message_queue_create(Q), thread_get_message(Q, M)`, `p(1)`)
	}
	w := made()
	total := 0
	for n := 1; n <= 3; n++ {
		total += pickOut(t, w, n)
	}
	for _, most := range []int{math.MinInt, -1, 0, 1, math.MaxInt} {
		if !w.Rest(most) {
			t.Errorf("Rest(%d), where nobody is ready", most)
		}
	}
	for most := range total + 3 {
		w := made()
		if got := w.Rest(most); got != (most >= total) {
			t.Fatalf("Rest(%d) = %v, of %d picks", most, got, total)
		}
		good := 0
		for n := 1; n <= 3; n++ {
			good += pickOut(t, w, n)
		}
		if good != max(total-most, 0) {
			t.Fatalf("Rest(%d) has left %d picks of %d", most, good, total)
		}
	}
	for _, most := range []int{math.MinInt, 0, 1, math.MaxInt} {
		if w, e := world.New(conf(), ``, nil); e != nil || !w.Rest(most) || w.Threads() != 0 {
			t.Errorf("Rest(%d) without threads", most)
		}
	}
}

// P22.1: each round picks those that are ready as it begins: who comes, or is woken, has its turn in the next one.
func TestRounds(t *testing.T) {
	goals := []string{`thread_create(n(100), T), thread_create(n(200), U), message_queue_create(Q), thread_send_message(Q, a), n(0)`, `n(300)`, `w`}
	program := counting + ` w :- catch(thread_get_message(1, X), _, w), n(400).`
	for most := range 400 {
		w, alike := made(t, program, goals...), made(t, program, goals...)
		w.Rest(most)
		for left := most; left > 0; {
			var round []int
			for n := range alike.Threads() {
				if alike.State(n+1) == 1 {
					round = append(round, n+1)
				}
			}
			round = round[:min(len(round), left)]
			if good, bad := alike.Play(round...); good != len(round) || bad != 0 {
				t.Fatalf("Play(%v) = %d, %d", round, good, bad)
			}
			left -= len(round)
		}
		if view(w) != view(alike) {
			t.Fatalf("Rest(%d) has come to\n%s\nnot\n%s", most, view(w), view(alike))
		}
		if most == 399 && w.Threads() != 5 {
			t.Error("no thread has come")
		}
	}
}
