package thread_test

import (
	"slices"
	"testing"

	"pythia/api"
	"pythia/base"
)

// remembering is a program and a goal that ask for terms of many kinds, and come to one.
const (
	rememberingProgram = `p(f(X), g(Y, X)) :- assertz((d(X, h(Y)) :- q(Y), r(k(X)))). go(Z) :- p(f(W), g(V, W)), d2(Z, W). d2(Z, W) :- clause(d(A, B), C), out(l(A, B, C)), retract((d(A, B) :- D)),
		catch(nobody(f(A), W), error(E, _), out(E)), thread_send_message(1, m(A, f(B))), thread_get_message(1, m(X, Y)), Z = z(E, Y, D).`
	rememberingGoal = `(message_queue_create(Q), go(Z), throw(ball(Z, f(Q))))`
)

// P21.3: the program is neither changed nor kept: it is written over behind the call.
func TestArguments(t *testing.T) {
	want := ``
	for i := range 3 {
		tidy := clauses(t, rememberingProgram)
		room := make([]api.Clause, 0, len(tidy)+2)
		for _, c := range tidy {
			if i == 2 {
				c = cl(untidy(c.Head), untidy(c.Body))
			}
			room = append(room, cl(roomy(c.Head), roomy(c.Body)))
		}
		spare := cl(at("spare"), at("spare"))
		room[:len(tidy)+1][len(tidy)] = spare
		k := kernelOf(t, goalOf(t, rememberingGoal))
		l := roomyLimits()
		x := made(t, k, 1, room, l)
		if i == 1 {
			for j, c := range room {
				if !unspoilt(c.Head, tidy[j].Head) || !unspoilt(c.Body, tidy[j].Body) {
					t.Fatalf("New has changed %s", termText(base.Term(tidy[j])))
				}
			}
		}
		if !same(room[:len(tidy)+1][len(tidy)].Head, spare.Head) {
			t.Fatal("New has changed the spare room")
		}
		if i > 0 {
			for j := range room {
				spoil(room[j].Head, room[j].Body)
				room[j] = cl(nu(-99), nu(-99))
			}
		}
		runOver(t, k, 1, x)
		got := lineText(x.Last()) + "\n" + entryTexts(x.Talk()) + "\n" + entryTexts(k.Log())
		if i == 0 {
			want = got
		} else if got != want {
			t.Errorf("%s\nnot\n%s", got, want)
		}
	}
}

// P21.3: whatever is answered is written over by the one who asked, at every step: the same is told.
func TestAnswers(t *testing.T) {
	program := clauses(t, rememberingProgram)
	plain, k := kernelOf(t, goalOf(t, rememberingGoal)), kernelOf(t, goalOf(t, rememberingGoal))
	other, x := made(t, plain, 1, program, roomyLimits()), made(t, k, 1, program, roomyLimits())
	for range 2000 {
		other.Step()
		x.Step()
		for range 2 {
			last, talk := x.Last(), x.Talk()
			if !sameLine(last, other.Last()) || !slices.EqualFunc(talk, other.Talk(), sameEntry) {
				t.Fatalf("%s, not %s\n%s\nnot\n%s", lineText(last), lineText(other.Last()), entryTexts(talk), entryTexts(other.Talk()))
			}
			spoil(last.Term)
			spoilEntries(talk)
			spoil(k.Asks(1), k.Goal(1))
			spoilEntries(k.Log())
		}
	}
	if !other.Over() || x.Last().Kind != api.EvError || len(x.Talk()) < 7 || !slices.EqualFunc(k.Log(), plain.Log(), sameEntry) {
		t.Errorf("%s\n%s", lineText(x.Last()), entryTexts(x.Talk()))
	}
}

// apart fails, if two lists of arguments share memory, spare room too.
func apart(t *testing.T, seen map[*api.Term]int, terms ...api.Term) {
	t.Helper()
	for _, u := range terms {
		room := u.Args[:cap(u.Args)]
		for i := range room {
			if seen[&room[i]]++; seen[&room[i]] > 1 {
				t.Fatalf("%.200s shares memory", termText(u))
			}
		}
		apart(t, seen, u.Args...)
	}
}

// P21.3: no two lists of an answer share memory, nor two answers.
func TestApart(t *testing.T) {
	k := kernelOf(t, goalOf(t, rememberingGoal))
	x := made(t, k, 1, clauses(t, rememberingProgram), roomyLimits())
	runOver(t, k, 1, x)
	seen := map[*api.Term]int{}
	for range 3 {
		apart(t, seen, x.Last().Term)
		for _, e := range append(x.Talk(), k.Log()...) {
			apart(t, seen, e.Ask, e.Reply.Ball)
			apart(t, seen, e.Reply.Alts...)
			for i := range e.Reply.Alts[:cap(e.Reply.Alts)] {
				if seen[&e.Reply.Alts[:cap(e.Reply.Alts)][i]]++; seen[&e.Reply.Alts[:cap(e.Reply.Alts)][i]] > 1 {
					t.Fatal("alternatives share memory")
				}
			}
		}
	}
	one, two := x.Talk(), x.Talk()
	one = append(one, api.Entry{Pick: -9})
	one[0].Pick = -9
	if two[0].Pick != 0 || len(x.Talk()) != len(two) || x.Talk()[0].Pick != 0 {
		t.Error("two lists of entries share memory")
	}
}

// P21.3: what is held stays as it is, whatever comes behind it.
func TestHeld(t *testing.T) {
	k, xs := threadsOf(t, rememberingProgram+` n(0). n(N) :- out(f(N, X)), M is N - 1, n(M).`, `(n(5), n(20))`)
	x := xs[0]
	stepTill(t, x, func() bool { return len(x.Talk()) == 5 })
	talk, last := x.Talk(), x.Last()
	was := entryTexts(talk)
	runOver(t, k, 1, x)
	if entryTexts(talk) != was || !sameLine(last, api.Line{}) || len(x.Talk()) != 25 || entryTexts(x.Talk()[:5]) != was {
		t.Errorf("%s\nhas become\n%s", was, entryTexts(talk))
	}
}

// P2, P21.3: two kernels' threads share nothing, and tell the same, stepped alike.
func TestTwice(t *testing.T) {
	first := ``
	for i := range 5 {
		k, xs := threadsOf(t, rememberingProgram, rememberingGoal, `out(x)`)
		_, others := threadsOf(t, rememberingProgram, `(p(f(1), g(2, 1)), d(X, Y))`)
		for range 2000 {
			xs[0].Step()
			others[0].Step()
			xs[1].Step()
		}
		got := lineText(xs[0].Last()) + entryTexts(xs[0].Talk()) + lineText(xs[1].Last()) + entryTexts(k.Log())
		if i == 0 {
			first = got
		} else if got != first {
			t.Errorf("%s\nnot\n%s", got, first)
		}
	}
}
