package wam_test

import (
	"slices"
	"strconv"
	"strings"
	"testing"

	"pythia/api"
	"pythia/base"
	"pythia/ops"
	"pythia/read"
	"pythia/wam"
	"pythia/write"
)

// va, nu, at and co make a variable, a number, an atom, and a compound term.
func va(n int64) api.Term     { return api.Term{Kind: api.Var, Int: n} }
func nu(n int64) api.Term     { return api.Term{Kind: api.Num, Int: n} }
func at(name string) api.Term { return api.Term{Kind: api.Atom, Name: name} }
func co(name string, args ...api.Term) api.Term {
	return api.Term{Kind: api.Comp, Name: name, Args: args}
}

// cl makes a clause, fact one without a body.
func cl(head, body api.Term) api.Clause { return api.Clause{Head: head, Body: body} }
func fact(head api.Term) api.Clause     { return cl(head, at("true")) }

// tower is a term within so many of a name of one argument.
func tower(t api.Term, name string, height int) api.Term {
	for range height {
		t = co(name, t)
	}
	return t
}

// sized is a term with so many symbols, t at each end.
func sized(size int, t api.Term) api.Term {
	if size == 1 {
		return t
	}
	var args []api.Term
	rest := size - 1
	for n := min(rest, 8); n > 0; n-- {
		args = append(args, sized(rest/n, t))
		rest -= rest / n
	}
	return co("w", args...)
}

// scattered is a term with so many symbols, each end another variable, from 1 on.
func scattered(size int) api.Term {
	next := int64(0)
	return ends(sized(size, at("a")), &next)
}

// ends is a term with variables in the places of its atoms.
func ends(t api.Term, next *int64) api.Term {
	if t.Kind == api.Atom {
		*next++
		return va(*next)
	}
	var args []api.Term
	for _, arg := range t.Args {
		args = append(args, ends(arg, next))
	}
	return co(t.Name, args...)
}

// wrong are terms that aren't right.
func wrong() map[string]api.Term {
	long := strings.Repeat("x", 65)
	ring := make([]api.Term, 2)
	ring[0], ring[1] = at("a"), co(",")
	ring[1].Args = ring
	doubled := at("a")
	for range 60 {
		doubled = co(",", doubled, doubled)
	}
	return map[string]api.Term{
		"the zero term":      {},
		"kind 5":             {Kind: 5, Name: "a"},
		"kind below 0":       {Kind: -1, Name: "a"},
		"variable 0":         va(0),
		"variable below 0":   va(-1 << 63),
		"a long atom":        at(long),
		"a long name":        co(long, at("a")),
		"no argument":        co("f"),
		"nine arguments":     co("f", slices.Repeat([]api.Term{at("a")}, 9)...),
		"a wrong one within": co(",", at("a"), co(";", co(`\+`, va(0)), at("b"))),
		"too deep":           tower(at("a"), `\+`, 100),
		"too many symbols":   sized(2001, at("a")),
		"within itself":      ring[1],
		"2^60 leaves":        doubled,
	}
}

// untidy is the term with something in each field that its kinds don't name.
func untidy(t api.Term) api.Term {
	junk := []api.Term{{Kind: 9}, nu(7)}
	switch t.Kind {
	case api.Var, api.Num:
		t.Name, t.Args = "true", junk
	case api.Atom:
		t.Int, t.Args = -7, junk
	case api.Comp:
		t.Int = -7
		t.Args = slices.Clone(t.Args)
		for i, arg := range t.Args {
			t.Args[i] = untidy(arg)
		}
	}
	return t
}

// roomy is a term in new memory, whose lists of arguments have spare room with a mark in it.
func roomy(t api.Term) api.Term {
	if t.Kind != api.Comp {
		return t
	}
	args := make([]api.Term, 0, len(t.Args)+1)
	for _, arg := range t.Args {
		args = append(args, roomy(arg))
	}
	t.Args = append(args, at("spare"))[:len(args)]
	return t
}

// unspoilt tells whether a term that roomy made is still the one that it was made of, its spare room too.
func unspoilt(t, was api.Term) bool {
	if t.Kind != was.Kind || t.Name != was.Name || t.Int != was.Int || len(t.Args) != len(was.Args) {
		return false
	}
	if t.Kind != api.Comp {
		return true
	}
	return same(t.Args[:len(t.Args)+1][len(t.Args)], at("spare")) && slices.EqualFunc(t.Args, was.Args, unspoilt)
}

// spoil writes over all memory of terms, their spare room too.
func spoil(terms ...api.Term) {
	for _, t := range terms {
		spoil(t.Args...)
		room := t.Args[:cap(t.Args)]
		for i := range room {
			room[i] = nu(-99)
		}
	}
}

// same tells whether two terms are alike in all fields; no list and an empty one are.
func same(a, b api.Term) bool {
	return a.Kind == b.Kind && a.Name == b.Name && a.Int == b.Int && slices.EqualFunc(a.Args, b.Args, same)
}

func sameEvent(a, b api.Event) bool { return a.Kind == b.Kind && same(a.Term, b.Term) }

// terms are a text's terms.
func terms(t testing.TB, text string) []api.Term {
	t.Helper()
	all, e := read.All(ops.New(), text)
	if e != nil {
		t.Fatalf("%s isn't read: %v", text, e)
	}
	var ts []api.Term
	for _, r := range all {
		ts = append(ts, r.Term)
	}
	return ts
}

// goalOf is the goal of a text without its full stop.
func goalOf(t testing.TB, text string) api.Term {
	t.Helper()
	all := terms(t, text+" .")
	if len(all) != 1 {
		t.Fatalf("%s isn't one goal", text)
	}
	return all[0]
}

// clauses are the clauses of a text.
func clauses(t testing.TB, text string) []api.Clause {
	t.Helper()
	var all []api.Clause
	for _, u := range terms(t, text) {
		c, e := base.Clause(u)
		if e != api.OK {
			t.Fatalf("%s is no clause", termText(u))
		}
		all = append(all, c)
	}
	return all
}

// roomyLimits are limits as great as may be.
func roomyLimits() api.Limits {
	return api.Limits{Heap: api.MaxHeap, Stack: api.MaxStack, Trail: api.MaxHeap}
}

// machine is a new machine; there is no error.
func machine(t testing.TB, program []api.Clause, goal api.Term, l api.Limits) *wam.Machine {
	t.Helper()
	m, e := wam.New(program, goal, l)
	if e != api.OK || m == nil {
		t.Fatalf("New for %.300s = %d", termText(goal), e)
	}
	return m
}

// loaded is a new machine of texts, with limits as great as may be.
func loaded(t testing.TB, program, goal string) *wam.Machine {
	t.Helper()
	return machine(t, clauses(t, program), goalOf(t, goal), roomyLimits())
}

// termText is a term as a text.
func termText(u api.Term) string {
	if text, e := write.Text(u); e == api.OK {
		return text
	}
	return "no term of kind " + strconv.Itoa(u.Kind) + " " + u.Name
}

// eventText is an event as a text.
func eventText(e api.Event) string {
	kinds := strings.Fields("none yes no ball ask limit")
	if e.Kind < 0 || e.Kind >= len(kinds) {
		return "kind " + strconv.Itoa(e.Kind)
	}
	if e.Term.Kind == 0 {
		return kinds[e.Kind]
	}
	return kinds[e.Kind] + " " + termText(e.Term)
}

func eventTexts(es []api.Event) string {
	var all []string
	for _, e := range es {
		all = append(all, eventText(e))
	}
	return strings.Join(all, "; ")
}

// over tells whether a machine is over behind an event.
func over(e api.Event) bool { return e.Kind >= api.EvFail && e.Kind != api.EvAsk }

// parsedReply is the reply of a text: "yes", "no", "ball T", or else the alternatives, each with a full stop.
func parsedReply(t testing.TB, text string) api.Reply {
	t.Helper()
	ball, isBall := strings.CutPrefix(text, "ball ")
	switch {
	case isBall:
		return api.Reply{Ball: goalOf(t, ball)}
	case text == "yes" || text == "no":
		return api.Reply{Ok: text == "yes"}
	}
	return api.Reply{Ok: true, Alts: terms(t, text)}
}

// events are what a machine tells till it is over, fed with replies; of more than most it tells no more.
func events(t testing.TB, m *wam.Machine, most, steps int, reply func(i int, ask api.Term) api.Reply) []api.Event {
	t.Helper()
	var all []api.Event
	asks := 0
	for range 3000000 {
		if len(all) >= most {
			return all
		}
		e := m.Run(steps)
		if e.Kind == api.EvNone {
			if e.Term.Kind != 0 || m.Over() {
				t.Fatalf("%s behind %s", eventText(e), eventTexts(all))
			}
			continue
		}
		all = append(all, e)
		if m.Over() != over(e) {
			t.Fatalf("over is %v behind %s", m.Over(), eventTexts(all))
		}
		if over(e) {
			return all
		}
		if e.Kind == api.EvAsk {
			if err := m.Reply(reply(asks, e.Term)); err != api.OK {
				t.Fatalf("Reply = %d behind %s", err, eventTexts(all))
			}
			asks++
		}
	}
	return all
}

// told is what a machine tells, fed with replies of these texts.
func told(t testing.TB, m *wam.Machine, replies ...string) string {
	t.Helper()
	return eventTexts(events(t, m, 1000, 1000, func(i int, ask api.Term) api.Reply {
		if i >= len(replies) {
			t.Fatalf("there is no reply to %s", termText(ask))
		}
		return parsedReply(t, replies[i])
	}))
}

// tells fails, if a program and a goal don't tell these events.
func tells(t testing.TB, program, goal, want string, replies ...string) {
	t.Helper()
	if got := told(t, loaded(t, program, goal), replies...); got != want {
		t.Errorf("%s ?- %s\ntells %s\n  not %s", program, goal, got, want)
	}
}
