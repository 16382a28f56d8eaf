package world_test

import (
	"slices"
	"strconv"
	"strings"
	"testing"

	"pythia/api"
	"pythia/base"
	"pythia/fault"
	"pythia/kernel"
	"pythia/ops"
	"pythia/read"
	"pythia/world"
	"pythia/write"
)

// va, nu, at and co make a variable, a number, an atom, and a compound term.
func va(n int64) api.Term     { return api.Term{Kind: api.Var, Int: n} }
func nu(n int64) api.Term     { return api.Term{Kind: api.Num, Int: n} }
func at(name string) api.Term { return api.Term{Kind: api.Atom, Name: name} }
func co(name string, args ...api.Term) api.Term {
	return api.Term{Kind: api.Comp, Name: name, Args: args}
}

// pred makes a predicate; slash is it as a term.
func pred(name string, arity int) api.Pred { return api.Pred{Name: name, Arity: arity} }
func slash(p api.Pred) api.Term            { return co("/", at(p.Name), nu(int64(p.Arity))) }

// spoil writes over all memory of terms, their spare room too.
func spoil(terms ...api.Term) {
	for _, t := range terms {
		spoil(t.Args...)
		room := t.Args[:cap(t.Args)]
		for i := range room {
			room[i] = nu(-99)
		}
	}
}

// spoilAll writes over all memory of a list of terms.
func spoilAll(ts []api.Term) {
	spoil(ts...)
	room := ts[:cap(ts)]
	for i := range room {
		room[i] = nu(-99)
	}
}

// spoilEntries writes over all memory of entries.
func spoilEntries(es []api.Entry) {
	for _, e := range es {
		spoil(e.Ask, e.Reply.Ball)
		spoilAll(e.Reply.Alts)
	}
	room := es[:cap(es)]
	for i := range room {
		room[i] = api.Entry{Pick: -9, Thread: -9, Ask: nu(-99)}
	}
}

// same tells whether two terms are alike in all fields; no list and an empty one are.
func same(a, b api.Term) bool {
	return a.Kind == b.Kind && a.Name == b.Name && a.Int == b.Int && slices.EqualFunc(a.Args, b.Args, same)
}

func sameReply(a, b api.Reply) bool {
	return a.Ok == b.Ok && slices.EqualFunc(a.Alts, b.Alts, same) && same(a.Ball, b.Ball)
}

func sameEntry(a, b api.Entry) bool {
	return a.Pick == b.Pick && a.Thread == b.Thread && same(a.Ask, b.Ask) && sameReply(a.Reply, b.Reply)
}

func sameLine(a, b api.Line) bool { return a.Kind == b.Kind && same(a.Term, b.Term) }

// reads are what is read of a text.
func reads(t testing.TB, text string) []api.Term {
	t.Helper()
	all, e := read.All(ops.New(), text)
	if e != nil {
		t.Fatalf("%s isn't read: %v", text, e)
	}
	var ts []api.Term
	for _, r := range all {
		ts = append(ts, r.Term)
	}
	return ts
}

// goalOf is the goal of a text without its full stop.
func goalOf(t testing.TB, text string) api.Term {
	t.Helper()
	all := reads(t, text+" .")
	if len(all) != 1 {
		t.Fatalf("%s isn't one goal", text)
	}
	return all[0]
}

// clauses are the clauses of a text.
func clauses(t testing.TB, text string) []api.Clause {
	t.Helper()
	var all []api.Clause
	for _, u := range reads(t, text) {
		c, e := base.Clause(u)
		if e != api.OK {
			t.Fatalf("%s is no clause", termText(u))
		}
		all = append(all, c)
	}
	return all
}

// termText is a term as a text.
func termText(u api.Term) string {
	if text, e := write.Text(u); e == api.OK {
		return text
	}
	return "no term of kind " + strconv.Itoa(u.Kind) + " " + u.Name
}

// termTexts are terms as texts, with blanks between.
func termTexts(us []api.Term) string {
	var all []string
	for _, u := range us {
		all = append(all, termText(u))
	}
	return strings.Join(all, " ")
}

// lineText is a line as a text.
func lineText(l api.Line) string {
	kinds := strings.Fields("none yes no ball ask limit")
	if l.Kind < 0 || l.Kind >= len(kinds) {
		return "kind " + strconv.Itoa(l.Kind)
	}
	if l.Term.Kind == 0 {
		return kinds[l.Kind]
	}
	return kinds[l.Kind] + " " + termText(l.Term)
}

// replyText is a reply as a text: "yes", "no", "ball T", or the alternatives.
func replyText(r api.Reply) string {
	var all []string
	for _, alt := range r.Alts {
		all = append(all, termText(alt))
	}
	alts := strings.Join(all, "; ")
	switch {
	case r.Ball.Kind != 0 && !r.Ok && alts == "":
		return "ball " + termText(r.Ball)
	case r.Ball.Kind != 0:
		return "a ball, and " + alts
	case !r.Ok && alts == "":
		return "no"
	case !r.Ok:
		return "no, but " + alts
	case alts == "":
		return "yes"
	}
	return alts
}

// entryText is an entry as a text, but for its place.
func entryText(e api.Entry) string {
	return strconv.Itoa(e.Thread) + " " + termText(e.Ask) + " = " + replyText(e.Reply)
}

func entryTexts(es []api.Entry) string {
	var all []string
	for _, e := range es {
		all = append(all, entryText(e))
	}
	return strings.Join(all, "\n")
}

// conf is a configuration with as much as may be.
func conf() api.Conf {
	return api.Conf{Limits: api.Limits{Heap: api.MaxHeap, Stack: api.MaxStack, Trail: api.MaxHeap}, Threads: api.MaxThread, Cells: api.MaxCells, Limbo: api.MaxLimbo}
}

// stopped are the texts of goals that are told without their full stops, each with one behind it.
func stopped(goals ...string) []string {
	var all []string
	for _, g := range goals {
		all = append(all, g+" .")
	}
	return all
}

// made is a world with as much as may be, of goals that are told without their full stops.
func made(t testing.TB, program string, goals ...string) *world.World {
	t.Helper()
	return madeOver(t, conf(), program, goals...)
}

// madeOver is a world over a configuration, of goals that are told without their full stops.
func madeOver(t testing.TB, c api.Conf, program string, goals ...string) *world.World {
	t.Helper()
	return madeOf(t, c, program, stopped(goals...))
}

// madeOf is a world of goals' texts as they stand, whose threads have not been picked.
func madeOf(t testing.TB, c api.Conf, program string, goals []string) *world.World {
	t.Helper()
	w, e := world.New(c, program, goals)
	if w == nil || e != nil {
		t.Fatalf("New(%v, %.200q, %.200q): %s", c, program, goals, fault.Text(e))
	}
	if w.Threads() != len(goals) || w.Len() != 0 || w.Log() != nil || w.Faults() != 0 {
		t.Fatalf("a new world of %q has %d threads, %d entries", goals, w.Threads(), w.Len())
	}
	for n := range goals {
		isNew(t, w, n+1)
	}
	return w
}

// isNew fails, if a thread isn't ready, or has done something.
func isNew(t testing.TB, w *world.World, n int) {
	t.Helper()
	if w.State(n) != 1 || !isBlank(w, n) {
		t.Fatalf("thread %d is new, in state %d, and has told %q, %s, %s", n, w.State(n), w.Told(n), lineText(w.Last(n)), entryTexts(w.Talk(n)))
	}
}

// isBlank tells whether nothing is told of a thread.
func isBlank(w *world.World, n int) bool {
	return sameLine(w.Last(n), api.Line{}) && same(w.Asks(n), api.Term{}) && w.Lines(n) == nil && w.Talk(n) == nil && w.Told(n) == ""
}

// rests fails, if a world's threads don't come to rest.
func rests(t testing.TB, w *world.World) {
	t.Helper()
	for range 50 {
		if w.Rest(api.MaxPicks) {
			return
		}
	}
	t.Fatal("a world has no rest")
}

// tells fails, if a thread hasn't told this.
func tells(t testing.TB, w *world.World, n int, want string) {
	t.Helper()
	if got := w.Told(n); got != want {
		t.Errorf("thread %d has told\n%.500s\nnot\n%.500s", n, got, want)
	}
}

// states fails, if the threads from 1 on aren't in these states.
func states(t testing.TB, w *world.World, want ...int) {
	t.Helper()
	for i, s := range want {
		if got := w.State(i + 1); got != s {
			t.Fatalf("thread %d is in state %d, not %d; it asks for %s", i+1, got, s, termText(w.Asks(i+1)))
		}
	}
}

// pickTill picks a thread till something is so.
func pickTill(t testing.TB, w *world.World, n int, isSo func() bool) {
	t.Helper()
	for range 10000 {
		if isSo() {
			return
		}
		if !w.Pick(n) {
			t.Fatalf("thread %d is in state %d, and it isn't so", n, w.State(n))
		}
	}
	t.Fatal("it never is")
}

// pickOut picks a thread as long as it is ready, and answers how many picks that were.
func pickOut(t testing.TB, w *world.World, n int) int {
	t.Helper()
	for picks := range 1000000 {
		if !w.Pick(n) {
			return picks
		}
	}
	t.Fatalf("thread %d has no end", n)
	return 0
}

// view is all that a world tells, as text.
func view(w *world.World) string {
	var b strings.Builder
	for n := -1; n <= w.Threads()+1; n++ {
		b.WriteString(strconv.Itoa(n) + ": " + strconv.Itoa(w.State(n)) + " asks " + termText(w.Asks(n)) + " lines " + termTexts(w.Lines(n)) + " last " + lineText(w.Last(n)) + "\n")
		for _, e := range w.Talk(n) {
			b.WriteString(strconv.Itoa(e.Pick) + " " + entryText(e) + "\n")
		}
		b.WriteString(w.Told(n))
	}
	for _, e := range w.Log() {
		b.WriteString(strconv.Itoa(e.Pick) + " " + entryText(e) + "\n")
	}
	b.WriteString(strconv.Itoa(w.Len()) + " " + strconv.Itoa(w.Threads()) + " " + strconv.Itoa(w.Faults()))
	return b.String()
}

// kernelLike is a kernel such as a world of a program and goals has.
func kernelLike(t testing.TB, program string, goals ...string) *kernel.Kernel {
	t.Helper()
	var static []api.Pred
	for _, c := range clauses(t, program) {
		static = append(static, predOf(c.Head))
	}
	k, e := kernel.New(conf(), static)
	if e != api.OK {
		t.Fatalf("no kernel: %d", e)
	}
	for _, g := range goals {
		k.Spawn(goalOf(t, g))
	}
	return k
}
