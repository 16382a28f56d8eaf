package world_test

import (
	"slices"
	"testing"

	"pythia/api"
	"pythia/world"
)

// remembering is a program and goals that ask for terms of many kinds, and come to some.
const remembering = `:- op(700, xfx, eq). p(f(X), g(Y, X)). d2(Z, W) :- clause(d(A, B), C), out(l(A, B, C)), retract((d(A, B) :- D)), catch(nobody(f(A), W), error(E, _), out(E)),
	thread_send_message(1, m(A, f(B))), thread_get_message(1, m(X, Y)), Z = z(E, Y, D).
	go(Z) :- p(f(W), g(V, W)), assertz((d(X, h(Y)) :- q(Y), r(k(X)))), d2(Z, W).
	await(X) :- catch(thread_get_message(1, g(X eq Y)), E, await(X)). `

func rememberingGoals() []string {
	return []string{
		`message_queue_create(Q), thread_create((out(f(X, Y)), d(1, 2)), T), go(Z), thread_join(T, S), out(S), throw(ball(Z, f(Q), g(S)))`,
		`await(X), out(X)`,
		`catch(d(X, Y), error(E, _), true), out(s(E, Y)), X = [a|Y]`,
	}
}

// spoilWorld writes over all that a world answers.
func spoilWorld(w *world.World) {
	for n := -1; n <= w.Threads()+1; n++ {
		spoil(w.Last(n).Term, w.Asks(n))
		spoilAll(w.Lines(n))
		spoilEntries(w.Talk(n))
	}
	spoilEntries(w.Log())
}

// P22.5, P1: what is handed in is neither changed nor kept: goals and picks are written over behind the calls.
func TestArguments(t *testing.T) {
	goals := append(stopped(rememberingGoals()...), "spare", "room")[:3]
	w, e := world.New(conf(), remembering, goals)
	if e != nil {
		t.Fatal(e)
	}
	if !slices.Equal(goals, stopped(rememberingGoals()...)) || !slices.Equal(goals[:5][3:], []string{"spare", "room"}) {
		t.Fatalf("New has changed the goals into %q", goals[:5])
	}
	for i := range goals[:5] {
		goals[:5][i] = "nobody."
	}
	alike := made(t, remembering, rememberingGoals()...)
	picks := make([]int, 6, 8)
	for range 300 {
		for i := range picks {
			picks[i] = 1 + i%4
		}
		w.Play(picks...)
		for i := range picks {
			if picks[i] != 1+i%4 {
				t.Fatal("Play has changed its picks")
			}
		}
		alike.Play(slices.Clone(picks)...)
		for i := range picks[:8] {
			picks[:8][i] = -9
		}
		if view(w) != view(alike) {
			t.Fatalf("%s\nnot\n%s", view(w), view(alike))
		}
	}
	states(t, w, 3, 2, 3, 0)
}

// P22.5, P1: whatever is answered is written over by the one who asked, ahead of each pick and behind it: the same is told, and done.
func TestAnswers(t *testing.T) {
	w, alike := made(t, remembering, rememberingGoals()...), made(t, remembering, rememberingGoals()...)
	for i := range 2000 {
		spoilWorld(w)
		w.Pick(1 + i%4)
		alike.Pick(1 + i%4)
		spoilWorld(w)
		if view(w) != view(alike) {
			t.Fatalf("behind %d picks\n%s\nnot\n%s", i+1, view(w), view(alike))
		}
	}
	states(t, w, 3, 2, 3, 0)
	if w.Len() < 15 || w.Last(1).Kind != api.EvError {
		t.Errorf("too little was done:\n%s", view(w))
	}
}

// apart fails, if two lists of arguments share memory, spare room too.
func apart(t *testing.T, seen map[*api.Term]int, terms ...api.Term) {
	t.Helper()
	for _, u := range terms {
		apartAll(t, seen, u.Args)
	}
}

// apartAll fails, if a list of terms shares memory with another one, spare room too.
func apartAll(t *testing.T, seen map[*api.Term]int, us []api.Term) {
	t.Helper()
	room := us[:cap(us)]
	for i := range room {
		if seen[&room[i]]++; seen[&room[i]] > 1 {
			t.Fatalf("%.200s share memory", termTexts(us))
		}
	}
	apart(t, seen, us...)
}

// P22.5, P1: no two lists of an answer share memory, nor those of two answers.
func TestApart(t *testing.T) {
	w := made(t, remembering, rememberingGoals()...)
	rests(t, w)
	seen := map[*api.Term]int{}
	entries := map[*api.Entry]int{}
	for range 3 {
		for n := range 6 {
			apart(t, seen, w.Last(n).Term, w.Asks(n))
			apartAll(t, seen, w.Lines(n))
			for _, es := range [][]api.Entry{w.Talk(n), w.Log()} {
				for i := range es[:cap(es)] {
					e := &es[:cap(es)][i]
					if entries[e]++; entries[e] > 1 {
						t.Fatal("two lists of entries share memory")
					}
					apart(t, seen, e.Ask, e.Reply.Ball)
					apartAll(t, seen, e.Reply.Alts)
				}
			}
		}
	}
	if len(seen) < 300 {
		t.Errorf("too little was told: %d terms", len(seen))
	}
}

// P22.5: what is held stays as it is, whatever comes behind it.
func TestHeld(t *testing.T) {
	w := made(t, remembering+counting, `n(0)`, rememberingGoals()[2], `message_queue_create(Q), thread_get_message(Q, f(X, Y))`)
	w.Play(slices.Repeat([]int{1, 2, 3}, 60)...)
	states(t, w, 1, 3, 2)
	lines, talk, log, last, asks := w.Lines(1), w.Talk(1), w.Log(), w.Last(2), w.Asks(3)
	told := func() string {
		return termTexts(lines) + entryTexts(talk) + entryTexts(log) + lineText(last) + termText(asks)
	}
	was, lineCount := told(), len(lines)
	w.Rest(3000)
	if told() != was || len(w.Lines(1)) < lineCount+100 || termTexts(w.Lines(1)[:lineCount]) != termTexts(lines) || entryTexts(w.Log()[:len(log)]) != entryTexts(log) {
		t.Errorf("%s\nhas become\n%s", was, told())
	}
}

// P22.5, P2: two worlds that are told the same, and picked alike, tell the same, whatever other worlds do between.
func TestTwice(t *testing.T) {
	first := ""
	for i := range 6 {
		w := made(t, remembering, rememberingGoals()...)
		other := made(t, `d(1, 2). p(3). :- op(0, xfx, is). q. r(X).`, `p(X), assertz(e(X)), mutex_create(M), mutex_lock(M), message_queue_create(Q), thread_send_message(Q, X), out(X)`, `retract(e(X)), e(Y)`, `thread_create(d(A, B), T), out(T)`)
		if i%2 == 1 {
			rests(t, other)
		}
		for j := range 1500 {
			w.Pick(1 + j%4)
			if i%3 != 0 {
				other.Pick(1 + j%5)
			}
		}
		if got := view(w); i == 0 {
			first = got
		} else if got != first {
			t.Fatalf("%s\nnot\n%s", got, first)
		}
	}
}
