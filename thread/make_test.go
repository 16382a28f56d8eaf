package thread_test

import (
	"slices"
	"strconv"
	"strings"
	"testing"

	"pythia/api"
	"pythia/base"
	"pythia/kernel"
	"pythia/ops"
	"pythia/read"
	"pythia/thread"
	"pythia/write"
)

// va, nu, at and co make a variable, a number, an atom, and a compound term.
func va(n int64) api.Term     { return api.Term{Kind: api.Var, Int: n} }
func nu(n int64) api.Term     { return api.Term{Kind: api.Num, Int: n} }
func at(name string) api.Term { return api.Term{Kind: api.Atom, Name: name} }
func co(name string, args ...api.Term) api.Term {
	return api.Term{Kind: api.Comp, Name: name, Args: args}
}

// cl makes a clause.
func cl(head, body api.Term) api.Clause { return api.Clause{Head: head, Body: body} }

// tower is a term within so many of a name of one argument.
func tower(t api.Term, name string, height int) api.Term {
	for range height {
		t = co(name, t)
	}
	return t
}

// sized is a term with so many symbols, t at each end.
func sized(size int, t api.Term) api.Term {
	if size == 1 {
		return t
	}
	var args []api.Term
	rest := size - 1
	for n := min(rest, 8); n > 0; n-- {
		args = append(args, sized(rest/n, t))
		rest -= rest / n
	}
	return co("w", args...)
}

// wrong are terms that aren't right.
func wrong() map[string]api.Term {
	long := strings.Repeat("x", 65)
	ring := make([]api.Term, 2)
	ring[0], ring[1] = at("a"), co(",")
	ring[1].Args = ring
	doubled := at("a")
	for range 60 {
		doubled = co(",", doubled, doubled)
	}
	return map[string]api.Term{
		"the zero term":      {},
		"kind 5":             {Kind: 5, Name: "a"},
		"kind below 0":       {Kind: -1, Name: "a"},
		"variable 0":         va(0),
		"variable below 0":   va(-1 << 63),
		"a long atom":        at(long),
		"a long name":        co(long, at("a")),
		"no argument":        co("f"),
		"nine arguments":     co("f", slices.Repeat([]api.Term{at("a")}, 9)...),
		"a wrong one within": co(",", at("a"), co(";", co(`\+`, va(0)), at("b"))),
		"too deep":           tower(at("a"), `\+`, 100),
		"too many symbols":   sized(2001, at("a")),
		"within itself":      ring[1],
		"2^60 leaves":        doubled,
	}
}

// untidy is the term with something in each field that its kinds don't name.
func untidy(t api.Term) api.Term {
	junk := []api.Term{{Kind: 9}, nu(7)}
	switch t.Kind {
	case api.Var, api.Num:
		t.Name, t.Args = "true", junk
	case api.Atom:
		t.Int, t.Args = -7, junk
	case api.Comp:
		t.Int = -7
		t.Args = slices.Clone(t.Args)
		for i, arg := range t.Args {
			t.Args[i] = untidy(arg)
		}
	}
	return t
}

// roomy is a term in new memory, whose lists of arguments have spare room with a mark in it.
func roomy(t api.Term) api.Term {
	if t.Kind != api.Comp {
		return t
	}
	args := make([]api.Term, 0, len(t.Args)+1)
	for _, arg := range t.Args {
		args = append(args, roomy(arg))
	}
	t.Args = append(args, at("spare"))[:len(args)]
	return t
}

// unspoilt tells whether a term that roomy made is still the one that it was made of, its spare room too.
func unspoilt(t, was api.Term) bool {
	if t.Kind != was.Kind || t.Name != was.Name || t.Int != was.Int || len(t.Args) != len(was.Args) {
		return false
	}
	if t.Kind != api.Comp {
		return true
	}
	return same(t.Args[:len(t.Args)+1][len(t.Args)], at("spare")) && slices.EqualFunc(t.Args, was.Args, unspoilt)
}

// spoil writes over all memory of terms, their spare room too.
func spoil(terms ...api.Term) {
	for _, t := range terms {
		spoil(t.Args...)
		room := t.Args[:cap(t.Args)]
		for i := range room {
			room[i] = nu(-99)
		}
	}
}

// spoilEntries writes over all memory of entries.
func spoilEntries(es []api.Entry) {
	for _, e := range es {
		spoil(e.Ask, e.Reply.Ball)
		spoil(e.Reply.Alts...)
		room := e.Reply.Alts[:cap(e.Reply.Alts)]
		for i := range room {
			room[i] = nu(-99)
		}
	}
	room := es[:cap(es)]
	for i := range room {
		room[i] = api.Entry{Pick: -9, Thread: -9, Ask: nu(-99)}
	}
}

// same tells whether two terms are alike in all fields; no list and an empty one are.
func same(a, b api.Term) bool {
	return a.Kind == b.Kind && a.Name == b.Name && a.Int == b.Int && slices.EqualFunc(a.Args, b.Args, same)
}

func sameReply(a, b api.Reply) bool {
	return a.Ok == b.Ok && slices.EqualFunc(a.Alts, b.Alts, same) && same(a.Ball, b.Ball)
}

func sameEntry(a, b api.Entry) bool {
	return a.Pick == b.Pick && a.Thread == b.Thread && same(a.Ask, b.Ask) && sameReply(a.Reply, b.Reply)
}

func sameLine(a, b api.Line) bool { return a.Kind == b.Kind && same(a.Term, b.Term) }

// terms are a text's terms.
func terms(t testing.TB, text string) []api.Term {
	t.Helper()
	all, e := read.All(ops.New(), text)
	if e != nil {
		t.Fatalf("%s isn't read: %v", text, e)
	}
	var ts []api.Term
	for _, r := range all {
		ts = append(ts, r.Term)
	}
	return ts
}

// goalOf is the goal of a text without its full stop.
func goalOf(t testing.TB, text string) api.Term {
	t.Helper()
	all := terms(t, text+" .")
	if len(all) != 1 {
		t.Fatalf("%s isn't one goal", text)
	}
	return all[0]
}

// clauses are the clauses of a text.
func clauses(t testing.TB, text string) []api.Clause {
	t.Helper()
	var all []api.Clause
	for _, u := range terms(t, text) {
		c, e := base.Clause(u)
		if e != api.OK {
			t.Fatalf("%s is no clause", termText(u))
		}
		all = append(all, c)
	}
	return all
}

// termText is a term as a text.
func termText(u api.Term) string {
	if text, e := write.Text(u); e == api.OK {
		return text
	}
	return "no term of kind " + strconv.Itoa(u.Kind) + " " + u.Name
}

// lineText is a line as a text.
func lineText(l api.Line) string {
	kinds := strings.Fields("none yes no ball ask limit")
	if l.Kind < 0 || l.Kind >= len(kinds) {
		return "kind " + strconv.Itoa(l.Kind)
	}
	if l.Term.Kind == 0 {
		return kinds[l.Kind]
	}
	return kinds[l.Kind] + " " + termText(l.Term)
}

// replyText is a reply as a text: "yes", "no", "ball T", or the alternatives.
func replyText(r api.Reply) string {
	var all []string
	for _, alt := range r.Alts {
		all = append(all, termText(alt))
	}
	alts := strings.Join(all, "; ")
	switch {
	case r.Ball.Kind != 0 && !r.Ok && alts == "":
		return "ball " + termText(r.Ball)
	case r.Ball.Kind != 0:
		return "a ball, and " + alts
	case !r.Ok && alts == "":
		return "no"
	case !r.Ok:
		return "no, but " + alts
	case alts == "":
		return "yes"
	}
	return alts
}

// entryTexts are entries as texts, a line each, but for their places.
func entryTexts(es []api.Entry) string {
	var all []string
	for _, e := range es {
		all = append(all, strconv.Itoa(e.Thread)+" "+termText(e.Ask)+" = "+replyText(e.Reply))
	}
	return strings.Join(all, "\n")
}

// roomyLimits are limits as great as may be.
func roomyLimits() api.Limits {
	return api.Limits{Heap: api.MaxHeap, Stack: api.MaxStack, Trail: api.MaxHeap}
}

// conf is a configuration with as much as may be.
func conf() api.Conf {
	return api.Conf{Threads: api.MaxThread, Cells: api.MaxCells, Limbo: api.MaxLimbo}
}

// kernelOf is a kernel with as much room as may be, and threads with these goals.
func kernelOf(t testing.TB, goals ...api.Term) *kernel.Kernel {
	t.Helper()
	k, e := kernel.New(conf(), nil)
	if e != api.OK {
		t.Fatalf("New = %d", e)
	}
	for i, g := range goals {
		if n, e := k.Spawn(g); n != i+1 || e != api.OK {
			t.Fatalf("Spawn = %d, %d, not %d", n, e, i+1)
		}
	}
	return k
}

// made is a kernel's thread over a program.
func made(t testing.TB, k *kernel.Kernel, n int, program []api.Clause, l api.Limits) *thread.Thread {
	t.Helper()
	x, e := thread.New(k, n, program, l)
	if x == nil || e != api.OK {
		t.Fatalf("New(%d) = %v, %d", n, x, e)
	}
	if x.Over() || !sameLine(x.Last(), api.Line{}) || x.Talk() != nil {
		t.Fatalf("thread %d, new: over %v, %s, %s", n, x.Over(), lineText(x.Last()), entryTexts(x.Talk()))
	}
	return x
}

// threadsOf is a kernel and its threads over the program of a text, with the goals of texts.
func threadsOf(t testing.TB, program string, goals ...string) (*kernel.Kernel, []*thread.Thread) {
	t.Helper()
	var all []api.Term
	for _, g := range goals {
		all = append(all, goalOf(t, g))
	}
	k := kernelOf(t, all...)
	var xs []*thread.Thread
	for i := range goals {
		xs = append(xs, made(t, k, i+1, clauses(t, program), roomyLimits()))
	}
	return k, xs
}

// run steps a thread as long as the kernel's thread is ready, and answers how many steps that were.
func run(t testing.TB, k *kernel.Kernel, n int, x *thread.Thread) int {
	t.Helper()
	steps := 0
	for k.State(n) == 1 {
		if x.Over() || !sameLine(x.Last(), api.Line{}) {
			t.Fatalf("thread %d is ready, and over with %s", n, lineText(x.Last()))
		}
		over := x.Step()
		if over != x.Over() || over != (k.State(n) == 3) {
			t.Fatalf("thread %d: Step = %v, Over = %v in state %d", n, over, x.Over(), k.State(n))
		}
		if steps++; steps > 1000000 {
			t.Fatalf("thread %d has no end", n)
		}
	}
	return steps
}

// stepTill steps a thread till something is so.
func stepTill(t testing.TB, x *thread.Thread, isSo func() bool) {
	t.Helper()
	for range 10000 {
		if isSo() {
			return
		}
		x.Step()
	}
	t.Fatal("it never is")
}

// runOver steps a thread to its end.
func runOver(t testing.TB, k *kernel.Kernel, n int, x *thread.Thread) int {
	t.Helper()
	steps := run(t, k, n, x)
	if !x.Over() || k.State(n) != 3 {
		t.Fatalf("thread %d isn't over: state %d, it asks for %s", n, k.State(n), termText(k.Asks(n)))
	}
	return steps
}

// statusOf is the status that the log tells of a thread's end.
func statusOf(t testing.TB, k *kernel.Kernel, n int) string {
	t.Helper()
	for _, e := range k.Log() {
		if e.Thread == n && e.Ask.Name == "$end" && e.Ask.Kind == api.Comp {
			return termText(e.Ask.Args[0])
		}
	}
	return "none"
}

// does lets a thread of the kernel's that has no machine do a goal at once, and fails, if that isn't replied so.
func does(t testing.TB, k *kernel.Kernel, n int, goal, reply string) {
	t.Helper()
	j := k.Begin(n, goalOf(t, goal))
	if j == nil {
		t.Fatalf("thread %d can't begin %s", n, goal)
	}
	for range 5000 {
		if j.Step() {
			break
		}
	}
	if got := replyText(j.Reply()); !j.Over() || got != reply {
		t.Fatalf("%s is replied %s, not %s", goal, got, reply)
	}
}

// states fails, if the kernel's threads from 1 on aren't in these states.
func states(t testing.TB, k *kernel.Kernel, want ...int) {
	t.Helper()
	for i, w := range want {
		if got := k.State(i + 1); got != w {
			t.Fatalf("thread %d is in state %d, not %d", i+1, got, w)
		}
	}
}
