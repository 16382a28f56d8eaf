package kernel_test

import (
	"math/rand"
	"slices"
	"testing"

	"pythia/api"
	"pythia/kernel"
)

// P20.4: the list of static predicates is neither changed nor kept.
func TestStaticMemory(t *testing.T) {
	list := append(make([]api.Pred, 0, 3), pred("s", 1), pred("u", 0))
	list[:3][2] = pred("spare", 9)
	k, _ := kernel.New(roomyConf(), list)
	if !slices.Equal(list[:3], []api.Pred{pred("s", 1), pred("u", 0), pred("spare", 9)}) {
		t.Errorf("the list has become %v", list[:3])
	}
	for i := range list[:3] {
		list[:3][i] = pred("p", 1)
	}
	spawns(t, k, at("main"), 1)
	settles(t, k, 1, `assertz(s(1))`, permBall(`modify`, `static_procedure`, `/(s,1)`))
	settles(t, k, 1, `clause(u, X)`, permBall(`access`, `private_procedure`, `/(u,0)`))
	does(t, k, 1, `assertz(p(1))`, `yes`, `'$add'(:-(p(1),true),1)`)
}

// allGoals are goals whose replies, entries and lines hold terms.
func allGoals(t *testing.T) []api.Term {
	t.Helper()
	return goalsOf(t, `assertz((p(f(X), g(Y, X)) :- h(Y), i(k(X))))`, `asserta(p(f(a), g(b, c)))`, `p(X, Y)`, `clause(p(f(X), Y), Z)`, `retract((p(X, Y) :- h(b), Z))`, `retract(p(X, Y))`,
		`message_queue_create(Q, 3)`, `thread_send_message(1, m(f(X), g(Y, X)))`, `thread_peek_message(1, m(X, Y))`, `thread_get_message(1, m(X, Y))`, `mutex_lock(f(X, g(a)))`,
		`out(l(f(X), g(Y, X)))`, `thread_create(g(f(X), Y), T)`, `assertz((f(X) :- 3))`, `nobody(f(X), g(Y))`, `thread_self(f(X))`)
}

// P20.4: whatever is handed in is let be, and written over behind the call; whatever is answered is written over by the one who asked: the same is told.
func TestMemory(t *testing.T) {
	k, plain := roomyKernel(t, 2), roomyKernel(t, 2)
	for range 3 {
		for _, g := range allGoals(t) {
			other := begun(t, plain, 1, g)
			run(t, other)
			handed := untidy(roomy(g))
			was := untidy(g)
			j := k.Begin(1, handed)
			spoil(k.Asks(1))
			if !sameUntidy(handed, was) {
				t.Fatalf("%s was changed", text(g))
			}
			spoil(handed)
			if !same(k.Asks(1), renamed(g)) {
				t.Fatalf("%s is %s", text(g), text(k.Asks(1)))
			}
			for !j.Step() {
				spoil(k.Asks(1))
				spoilEntries(k.Log())
			}
			spoilReply(j.Reply())
			spoilEntries(k.Since(k.Len() - 1))
			spoilAll(k.Lines(1))
			spoil(k.Goal(1))
			if !sameReply(j.Reply(), other.Reply()) || !slices.EqualFunc(k.Log(), plain.Log(), sameEntry) {
				t.Fatalf("%s\nis replied %s\nnot        %s\n%s", text(g), replyText(j.Reply()), replyText(other.Reply()), entryTexts(k.Log()))
			}
			if !slices.EqualFunc(k.Lines(1), plain.Lines(1), same) || !same(k.Goal(1), at("main")) {
				t.Fatalf("behind %s: %v", text(g), k.Lines(1))
			}
		}
	}
	status := roomy(co("f", va(3), co("g", va(3))))
	ends(t, k, 2, status)
	spoil(status)
	settles(t, k, 1, `thread_join(2, S)`, `thread_join(2,f(_1,g(_1)))`)
}

// sameUntidy tells whether two terms are alike in all, also in what their kinds don't name.
func sameUntidy(a, b api.Term) bool {
	return a.Kind == b.Kind && a.Name == b.Name && a.Int == b.Int && slices.EqualFunc(a.Args, b.Args, sameUntidy)
}

// apart fails, if two lists of arguments share memory, spare room too.
func apart(t *testing.T, seen map[*api.Term]int, terms ...api.Term) {
	t.Helper()
	for _, u := range terms {
		room := u.Args[:cap(u.Args)]
		for i := range room {
			if seen[&room[i]]++; seen[&room[i]] > 1 {
				t.Fatalf("%.200s shares memory", text(u))
			}
		}
		apart(t, seen, u.Args...)
	}
}

// P20.4: no two lists of an answer share memory, nor two answers, nor an answer and an argument.
func TestApart(t *testing.T) {
	k := roomyKernel(t, 1)
	seen := map[*api.Term]int{}
	part := co("f", va(1), co("g", va(1)))
	spawns(t, k, co("w", part, part, part), 2)
	ends(t, k, 2, co("w", part, part))
	goals := append(allGoals(t), co("assertz", co("p", part, part)), co("thread_join", nu(2), va(1)), co("out", co("w", part, part)), co("nobody", part, part), co("retract", co("p", part, part)))
	for _, g := range goals {
		j := begun(t, k, 1, g)
		apart(t, seen, k.Asks(1), k.Asks(1))
		run(t, j)
		for range 2 {
			r := j.Reply()
			apart(t, seen, r.Alts...)
			apart(t, seen, r.Ball)
		}
	}
	for range 2 {
		for _, e := range append(k.Log(), k.Since(3)...) {
			apart(t, seen, e.Ask, e.Reply.Ball)
			apart(t, seen, e.Reply.Alts...)
		}
		apart(t, seen, k.Goal(1), k.Goal(2))
		apart(t, seen, k.Lines(1)...)
	}
}

// P20.4: what is held stays as it is, whatever comes behind it.
func TestHeld(t *testing.T) {
	k := roomyKernel(t, 2)
	spawns(t, k, goalOf(t, `g(X, f(Y))`), 3)
	ready, goal := k.Ready(), k.Goal(3)
	does(t, k, 1, `assertz((p(X, Y) :- q(Y)))`, `yes`, `'$add'(:-(p(_1,_2),q(_2)),1)`)
	j := begun(t, k, 1, goalOf(t, `p(A, B)`))
	asked := k.Asks(1)
	run(t, j)
	settles(t, k, 1, `out(f(X, Y))`, `yes`)
	reply, log, lines := j.Reply(), k.Log(), k.Lines(1)
	logged := entryTexts(log)
	r := rand.New(rand.NewSource(204))
	for range 50 {
		run(t, begun(t, k, 1, co("assertz", co("p", anyTerm(r, 3), anyTerm(r, 3)))))
		run(t, begun(t, k, 1, goalOf(t, `retract(p(X, Y))`)))
		settles(t, k, 1, `out(z)`, `yes`)
	}
	run(t, begun(t, k, 1, goalOf(t, `retract((p(X, Y) :- Z))`)))
	ends(t, k, 3, at("x"))
	settles(t, k, 1, `thread_join(3, S)`, `thread_join(3,x)`)
	if !slices.Equal(ready, []int{1, 2, 3}) || text(goal) != `g(_1,f(_2))` || text(asked) != `p(_1,_2)` || len(lines) != 1 || text(lines[0]) != `f(_1,_2)` {
		t.Errorf("%v, %s, %s, %v", ready, text(goal), text(asked), lines)
	}
	if replyText(reply) != `:-(p(_1,_2),q(_2))` || entryTexts(log) != logged || !sameReply(j.Reply(), reply) || entryTexts(k.Log()[:len(log)]) != logged {
		t.Errorf("%s\n%s", replyText(reply), entryTexts(log))
	}
}

// P2: what is told doesn't hang on a map's order.
func TestAlways(t *testing.T) {
	var first string
	for i := range 30 {
		k := withMutexes(t, 8, 8)
		for m := range 8 {
			settlesGoal(t, k, 1, co("mutex_lock", nu(int64(m+1))), `yes`)
		}
		for n := 2; n <= 8; n++ {
			j := begun(t, k, n, co("mutex_lock", nu(int64(n))))
			j.Step()
		}
		ends(t, k, 1, at("x"))
		if !slices.Equal(k.Ready(), []int{2, 3, 4, 5, 6, 7, 8}) {
			t.Fatalf("Ready = %v", k.Ready())
		}
		if told := entryTexts(k.Log()); i == 0 {
			first = told
		} else if told != first {
			t.Fatalf("%s\nnot\n%s", told, first)
		}
	}
}
