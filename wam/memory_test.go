package wam_test

import (
	"slices"
	"testing"

	"pythia/api"
	"pythia/wam"
)

// roomyProgram is a program in new memory, with spare room everywhere.
func roomyProgram(program []api.Clause) []api.Clause {
	all := make([]api.Clause, 0, len(program)+1)
	for _, c := range program {
		all = append(all, cl(roomy(c.Head), roomy(c.Body)))
	}
	return append(all, fact(at("spare")))[:len(program)]
}

// unspoiltProgram tells whether a program that roomyProgram made is still the one that it was made of.
func unspoiltProgram(program, was []api.Clause) bool {
	spare := program[:len(program)+1][len(program)]
	return same(spare.Head, at("spare")) && slices.EqualFunc(program, was, func(a, b api.Clause) bool { return unspoilt(a.Head, b.Head) && unspoilt(a.Body, b.Body) })
}

// spoilProgram writes over all memory of a program.
func spoilProgram(program []api.Clause) {
	for i, c := range program {
		spoil(c.Head, c.Body)
		program[i] = cl(nu(-99), nu(-99))
	}
}

// spoiltReply replies, and writes over the reply behind the call.
func spoiltReply(t *testing.T, m *wam.Machine, r api.Reply) {
	t.Helper()
	was := r
	r.Ball = roomy(r.Ball)
	r.Alts = make([]api.Term, 0, len(was.Alts)+1)
	for _, alt := range was.Alts {
		r.Alts = append(r.Alts, roomy(alt))
	}
	r.Alts = append(r.Alts, at("spare"))[:len(was.Alts)]
	if e := m.Reply(r); e != api.OK {
		t.Fatalf("Reply = %d", e)
	}
	spare := r.Alts[:len(r.Alts)+1][len(r.Alts)]
	if !unspoilt(r.Ball, was.Ball) || !slices.EqualFunc(r.Alts, was.Alts, unspoilt) || !same(spare, at("spare")) {
		t.Fatalf("a reply was changed")
	}
	spoil(r.Ball)
	spoil(r.Alts...)
	for i := range r.Alts {
		r.Alts[i] = nu(-99)
	}
}

// copied is an event in new memory.
func copied(e api.Event) api.Event { return api.Event{Kind: e.Kind, Term: roomy(e.Term)} }

// P19.3: arguments are written over behind each call, answers by the one who has asked: the same is told.
func TestMemory(t *testing.T) {
	for i, x := range trials(195, 4000) {
		program, goal := roomyProgram(x.program), roomy(x.goal)
		m := machine(t, program, goal, roomyLimits())
		if !unspoiltProgram(program, x.program) || !unspoilt(goal, x.goal) {
			t.Fatalf("%d: %s was changed", i, inWords(x.program, x.goal))
		}
		spoilProgram(program)
		spoil(goal)
		var got []api.Event
		asks := 0
		for len(got) < len(x.model.events) {
			e := m.Run(50)
			if e.Kind == api.EvNone {
				continue
			}
			got = append(got, copied(e))
			spoil(e.Term)
			if e.Kind == api.EvAnswer {
				continue
			}
			again := m.Run(50)
			if !sameEvent(again, got[len(got)-1]) {
				t.Fatalf("%d: %s, then %s", i, eventText(got[len(got)-1]), eventText(again))
			}
			if e.Kind != api.EvAsk {
				break
			}
			r := x.reply(asks, again.Term)
			spoil(again.Term)
			asks++
			spoiltReply(t, m, r)
		}
		if x.fails(got) {
			t.Fatalf("%d: %s\ntells %s\n  not %s", i, inWords(x.program, x.goal), eventTexts(got), eventTexts(x.model.events))
		}
	}
}

// apart fails, if two lists of arguments share memory, spare room too.
func apart(t *testing.T, seen map[*api.Term]int, terms ...api.Term) {
	t.Helper()
	for _, u := range terms {
		room := u.Args[:cap(u.Args)]
		for i := range room {
			if seen[&room[i]]++; seen[&room[i]] > 1 {
				t.Fatalf("%.200s shares memory", termText(u))
			}
		}
		apart(t, seen, u.Args...)
	}
}

// holds notes the memory of arguments.
func holds(seen map[*api.Term]int, terms ...api.Term) {
	for _, u := range terms {
		room := u.Args[:cap(u.Args)]
		for i := range room {
			seen[&room[i]] = 1
		}
		holds(seen, u.Args...)
	}
}

// P19.3: no two lists of an event share memory, nor do two events, nor an event and an argument.
func TestApart(t *testing.T) {
	part := co("f", va(1), co("g", nu(2)))
	for _, x := range []struct {
		program []api.Clause
		goal    api.Term
	}{
		{nil, co("u", part, part, part)},
		{nil, co(",", co("=", va(1), part.Args[1]), co("=", va(2), co("h", va(1), va(1), part.Args[1])))},
		{[]api.Clause{fact(co("p", part, part, va(3), va(3)))}, co("p", va(1), va(2), va(3), va(4))},
		{[]api.Clause{fact(co("p", va(1), va(1)))}, co("p", va(1), part.Args[1])},
		{nil, co("throw", co("e", part, part))},
		{clauses(t, `p(X, Y) :- X = f(Y, Y), Y = g(1).`), co("p", va(1), va(2))},
	} {
		seen := map[*api.Term]int{}
		m := machine(t, x.program, x.goal, roomyLimits())
		holds(seen, x.goal)
		for _, c := range x.program {
			holds(seen, c.Head, c.Body)
		}
		for range 4 {
			apart(t, seen, m.Run(100).Term)
		}
	}
	limited := machine(t, nil, co("=", va(1), at("a")), api.Limits{})
	seen := map[*api.Term]int{}
	for range 3 {
		apart(t, seen, limited.Run(100).Term)
	}
}

// P19.3: fields that a term's kind doesn't name are zero in what is answered.
func TestTidy(t *testing.T) {
	for i, x := range trials(196, 2000) {
		var program []api.Clause
		for _, c := range x.program {
			program = append(program, cl(untidy(c.Head), untidy(c.Body)))
		}
		got := events(t, machine(t, program, untidy(x.goal), roomyLimits()), len(x.model.events), 100, func(i int, ask api.Term) api.Reply {
			r := x.reply(i, ask)
			for j := range r.Alts {
				r.Alts[j] = untidy(r.Alts[j])
			}
			if r.Ball.Kind != 0 {
				r.Ball = untidy(r.Ball)
			}
			return r
		})
		if x.fails(got) {
			t.Fatalf("%d: %s\ntells %s\n  not %s", i, inWords(x.program, x.goal), eventTexts(got), eventTexts(x.model.events))
		}
	}
	// A reply without a ball has none, whatever its other fields hold.
	m := machine(t, nil, at("u"), roomyLimits())
	m.Run(10)
	if e := m.Reply(api.Reply{Ok: true, Ball: api.Term{Name: "a", Int: 3, Args: []api.Term{at("a")}}}); e != api.OK {
		t.Errorf("Reply = %d", e)
	}
	if e := m.Run(10); e.Kind != api.EvAnswer {
		t.Errorf("%s", eventText(e))
	}
}

// P19.3: machines of one program, side by side, tell what each tells alone.
func TestSideBySide(t *testing.T) {
	all := trials(197, 300)
	for i := range all {
		pair := []trial{all[i], all[(i+1)%len(all)]}
		if i%2 == 0 {
			pair[1] = pair[0]
		}
		var ms [2]*wam.Machine
		var got [2][]api.Event
		var asks [2]int
		for j, x := range pair {
			ms[j] = machine(t, x.program, x.goal, roomyLimits())
		}
		for busy := 2; busy > 0; {
			busy = 0
			for j, x := range pair {
				if len(got[j]) >= len(x.model.events) {
					continue
				}
				busy++
				e := ms[j].Run(1 + j)
				if e.Kind != api.EvNone {
					got[j] = append(got[j], e)
				}
				if e.Kind == api.EvAsk {
					ms[j].Reply(x.reply(asks[j], e.Term))
					asks[j]++
				}
			}
		}
		for j, x := range pair {
			if x.fails(got[j]) {
				t.Fatalf("%d, %d: %s\ntells %s\n  not %s", i, j, inWords(x.program, x.goal), eventTexts(got[j]), eventTexts(x.model.events))
			}
		}
	}
}

// P2: two machines that are told the same tell the same.
func TestAlways(t *testing.T) {
	for i, x := range trials(198, 2000) {
		l := api.Limits{Heap: 30, Stack: 4, Trail: 10}
		want := x.events(t, l, 7)
		for range 2 {
			if got := x.events(t, l, 1+i%9); !slices.EqualFunc(got, want, sameEvent) {
				t.Fatalf("%d: %s\ntells %s\n and %s", i, inWords(x.program, x.goal), eventTexts(got), eventTexts(want))
			}
		}
	}
}
