package wam_test

import (
	"math/rand"
	"slices"
	"strings"
	"testing"

	"pythia/api"
	"pythia/base"
)

// pick is one of some things.
func pick[T any](r *rand.Rand, of ...T) T { return of[r.Intn(len(of))] }

// anyTerm is some term at most so deep, over few symbols.
func anyTerm(r *rand.Rand, depth int) api.Term {
	switch k := r.Intn(10); {
	case k < 5:
		return va(1 + int64(r.Intn(4)))
	case k < 7:
		return nu(int64(r.Intn(3)))
	case k < 8 || depth < 2:
		return at(pick(r, "a", "b", "r"))
	case k < 9:
		return co("f", anyTerm(r, depth-1))
	}
	return co(".", anyTerm(r, depth-1), pick(r, at("[]"), anyTerm(r, depth-1)))
}

// anyLeaf is some goal without goals in it.
func anyLeaf(r *rand.Rand) api.Term {
	switch r.Intn(26) {
	case 0, 1, 2:
		return co("p", anyTerm(r, 2))
	case 3, 4, 5:
		return co("q", anyTerm(r, 2), anyTerm(r, 2))
	case 6:
		return at("r")
	case 7, 8:
		return co("s", anyTerm(r, 3))
	case 9, 10, 11:
		return co("=", va(1+int64(r.Intn(4))), anyTerm(r, 3))
	case 12:
		return co(pick(r, `\=`, "==", `\==`, "<", "=:="), anyTerm(r, 2), anyTerm(r, 2))
	case 13:
		return co("is", anyTerm(r, 1), co(pick(r, "+", "-", "//"), anyTerm(r, 1), anyTerm(r, 1)))
	case 14:
		return co(pick(r, "var", "nonvar", "atom", "callable"), anyTerm(r, 2))
	case 15:
		return pick(r, co("copy_term", anyTerm(r, 3), anyTerm(r, 2)), co("functor", anyTerm(r, 2), anyTerm(r, 1), anyTerm(r, 1)), co("arg", anyTerm(r, 1), anyTerm(r, 2), anyTerm(r, 1)), co("=..", anyTerm(r, 2), anyTerm(r, 2)))
	case 16, 17, 18:
		return at("!")
	case 19:
		return at(pick(r, "true", "fail"))
	case 20:
		return va(1 + int64(r.Intn(4)))
	case 21:
		return co("throw", anyTerm(r, 2))
	case 22, 23:
		return pick(r, co("u", anyTerm(r, 2)), at("v"))
	case 24:
		return nu(7)
	}
	return co("call", pick(r, at("p"), at("q"), at("="), at(","), co("q", anyTerm(r, 1)), anyTerm(r, 2)), anyTerm(r, 2))
}

// anyBody is some body at most so deep.
func anyBody(r *rand.Rand, depth int) api.Term {
	if depth < 2 {
		return anyLeaf(r)
	}
	a, b := anyBody(r, depth-1), anyBody(r, depth-1-r.Intn(2))
	switch k := r.Intn(16); {
	case k < 6:
		return co(",", a, b)
	case k < 8:
		return co(";", a, b)
	case k < 9:
		return co("->", a, b)
	case k < 11:
		return co(";", co("->", a, b), anyBody(r, depth-1))
	case k < 12:
		return co(`\+`, a)
	case k < 13:
		return co("call", a)
	case k < 15:
		return co("catch", a, anyTerm(r, 2), b)
	}
	return co(",", co("=", va(3), a), pick(r, va(3), co("call", va(3)), co(",", va(3), b)))
}

// anyClause is a clause of some predicate.
func anyClause(r *rand.Rand) api.Clause {
	head := pick(r, co("p", anyTerm(r, 2)), co("q", anyTerm(r, 2), anyTerm(r, 2)), at("r"), co("s", anyTerm(r, 3)))
	if r.Intn(3) == 0 {
		return fact(head)
	}
	return cl(head, noNumber(anyBody(r, 1+r.Intn(3))))
}

// noNumber is a body that is no number.
func noNumber(t api.Term) api.Term {
	if t.Kind == api.Num {
		return at("r")
	}
	return t
}

// anyProgram is some program.
func anyProgram(r *rand.Rand) []api.Clause {
	var all []api.Clause
	for range 2 + r.Intn(10) {
		all = append(all, anyClause(r))
	}
	return all
}

// anyReply is the i-th reply to an ask, the same whenever it is asked for.
func anyReply(seed int64, i int, ask api.Term) api.Reply {
	r := rand.New(rand.NewSource(seed + int64(i)))
	switch r.Intn(6) {
	case 0:
		return api.Reply{Ball: anyTerm(r, 2)}
	case 1:
		return api.Reply{}
	case 2:
		return api.Reply{Ok: true}
	}
	var alts []api.Term
	for range 1 + r.Intn(3) {
		head := at("v")
		if ask.Kind == api.Comp {
			head = co(ask.Name, anyTerm(r, 2))
		}
		if r.Intn(2) == 0 {
			head = co(":-", head, noNumber(anyBody(r, 1+r.Intn(2))))
		}
		alts = append(alts, head)
	}
	return api.Reply{Ok: true, Alts: alts}
}

// inWords is a program and a goal as a text.
func inWords(program []api.Clause, goal api.Term) string {
	var all []string
	for _, c := range program {
		all = append(all, termText(base.Term(c))+".")
	}
	return strings.Join(all, "\n") + "\n?- " + termText(goal)
}

// trial is a program, a goal and what it tells.
type trial struct {
	program []api.Clause
	goal    api.Term
	seed    int64
	model   *model
}

func (x trial) reply(i int, ask api.Term) api.Reply { return anyReply(x.seed, i, ask) }

// trials are some programs, each with what its goal tells: something, before it has taken too long.
func trials(seed int64, count int) []trial {
	r := rand.New(rand.NewSource(seed))
	var all []trial
	for len(all) < count {
		x := trial{program: anyProgram(r), goal: anyBody(r, 1+r.Intn(3)), seed: r.Int63()}
		x.model = modelled(x.program, x.goal, 300, x.reply)
		if len(x.model.events) > 0 {
			all = append(all, x)
		}
	}
	return all
}

// events are what the trial's machine tells, as many as the model has told.
func (x trial) events(t testing.TB, l api.Limits, steps int) []api.Event {
	t.Helper()
	return events(t, machine(t, x.program, x.goal, l), len(x.model.events), steps, x.reply)
}

// begins tells whether events begin with others.
func begins(all, with []api.Event) bool {
	return len(all) >= len(with) && slices.EqualFunc(all[:len(with)], with, sameEvent)
}

// fails tells whether events aren't what the model has told: all of it, if it has come to an end.
func (x trial) fails(got []api.Event) bool {
	want := x.model.events
	if x.model.beyond {
		return !begins(got, want)
	}
	return !slices.EqualFunc(got, want, sameEvent)
}

// P19.1: machines tell what the rules say.
func TestAnyPrograms(t *testing.T) {
	kinds := map[int]int{}
	whole := 0
	for i, x := range trials(191, 30000) {
		got := x.events(t, roomyLimits(), 1000)
		if x.fails(got) {
			t.Fatalf("%d: %s\ntells %s\n  not %s", i, inWords(x.program, x.goal), eventTexts(got), eventTexts(x.model.events))
		}
		if !x.model.beyond {
			whole++
		}
		for _, e := range got {
			kinds[e.Kind]++
		}
	}
	if whole < 20000 || kinds[api.EvAnswer] < 1000 || kinds[api.EvFail] < 1000 || kinds[api.EvError] < 1000 || kinds[api.EvAsk] < 1000 {
		t.Errorf("%d whole, %v", whole, kinds)
	}
}

// P19.2: however the steps are parted, the same is told.
func TestAnySteps(t *testing.T) {
	r := rand.New(rand.NewSource(192))
	for i, x := range trials(192, 3000) {
		for _, steps := range []int{1, 2, 3, 7, 1 + r.Intn(30), 1<<63 - 1} {
			if got := x.events(t, roomyLimits(), steps); x.fails(got) {
				t.Fatalf("%d, %d steps: %s\ntells %s\n  not %s", i, steps, inWords(x.program, x.goal), eventTexts(got), eventTexts(x.model.events))
			}
		}
	}
}

// P19.1: where each limit is at least 40 N + 1000, none is met.
func TestAnyRoom(t *testing.T) {
	for i, x := range trials(193, 20000) {
		if x.model.beyond {
			continue
		}
		n := 40*max(x.model.symbols, x.model.choices) + 1000
		if got := x.events(t, api.Limits{Heap: n, Stack: n, Trail: n}, 1000); x.fails(got) {
			t.Fatalf("%d, %d: %s\ntells %s\n  not %s", i, n, inWords(x.program, x.goal), eventTexts(got), eventTexts(x.model.events))
		}
		// This machine needs far less: no more than so many choices, and cells and notes by what is written.
		n = 4*x.model.written + 10
		if got := x.events(t, api.Limits{Heap: n, Stack: x.model.choices, Trail: n}, 1000); x.fails(got) {
			t.Fatalf("%d, %d, %d: %s\ntells %s\n  not %s", i, n, x.model.choices, inWords(x.program, x.goal), eventTexts(got), eventTexts(x.model.events))
		}
	}
}

// P19.1: with less room the same is told, up to an EvLimit of one of the four.
func TestAnyLimits(t *testing.T) {
	r := rand.New(rand.NewSource(194))
	met := map[string]int{}
	for i, x := range trials(194, 20000) {
		l := api.Limits{Heap: r.Intn(40), Stack: r.Intn(6), Trail: r.Intn(12)}
		switch r.Intn(4) {
		case 0:
			l.Heap = api.MaxHeap
		case 1:
			l.Stack = api.MaxStack
		case 2:
			l.Trail = api.MaxHeap
		}
		got := x.events(t, l, 1000)
		if last := len(got) - 1; got[last].Kind == api.EvLimit {
			met[termText(got[last].Term)]++
			got = got[:last]
			if begins(x.model.events, got) || x.model.beyond && begins(got, x.model.events) {
				continue
			}
		}
		if x.fails(got) {
			t.Fatalf("%d, %v: %s\ntells %s\n  not %s", i, l, inWords(x.program, x.goal), eventTexts(got), eventTexts(x.model.events))
		}
	}
	for _, w := range []string{"heap", "stack", "trail"} {
		if met["resource_error("+w+")"] < 100 {
			t.Errorf("%v", met)
		}
	}
	if len(met) > 3 && met["resource_error(term)"] == 0 || len(met) > 4 {
		t.Errorf("%v", met)
	}
}
