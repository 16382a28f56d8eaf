package kernel_test

import (
	"slices"
	"strconv"
	"strings"
	"testing"

	"pythia/api"
	"pythia/kernel"
	"pythia/ops"
	"pythia/read"
	"pythia/write"
)

// va, nu, at and co make a variable, a number, an atom, and a compound term.
func va(n int64) api.Term     { return api.Term{Kind: api.Var, Int: n} }
func nu(n int64) api.Term     { return api.Term{Kind: api.Num, Int: n} }
func at(name string) api.Term { return api.Term{Kind: api.Atom, Name: name} }
func co(name string, args ...api.Term) api.Term {
	return api.Term{Kind: api.Comp, Name: name, Args: args}
}

// pred makes a predicate; slash is it as a term.
func pred(name string, arity int) api.Pred { return api.Pred{Name: name, Arity: arity} }
func slash(p api.Pred) api.Term            { return co("/", at(p.Name), nu(int64(p.Arity))) }

// tower is a term within so many of a name of one argument.
func tower(t api.Term, name string, height int) api.Term {
	for range height {
		t = co(name, t)
	}
	return t
}

// sized is a term with so many symbols, t at each end.
func sized(size int, t api.Term) api.Term {
	if size == 1 {
		return t
	}
	var args []api.Term
	rest := size - 1
	for n := min(rest, 8); n > 0; n-- {
		args = append(args, sized(rest/n, t))
		rest -= rest / n
	}
	return co("w", args...)
}

// wrong are terms that aren't right.
func wrong() map[string]api.Term {
	long := strings.Repeat("x", 65)
	ring := make([]api.Term, 2)
	ring[0], ring[1] = at("a"), co(":-")
	ring[1].Args = ring
	doubled := at("a")
	for range 60 {
		doubled = co(":-", doubled, doubled)
	}
	return map[string]api.Term{
		"the zero term":      {},
		"kind 5":             {Kind: 5, Name: "a"},
		"kind below 0":       {Kind: -1, Name: "a"},
		"variable 0":         va(0),
		"variable below 0":   va(-1 << 63),
		"a long atom":        at(long),
		"a long name":        co(long, at("a")),
		"no argument":        co("f"),
		"nine arguments":     co("f", slices.Repeat([]api.Term{at("a")}, 9)...),
		"a wrong one within": co("out", co("f", at("a"), va(0))),
		"too deep":           tower(at("a"), "out", 100),
		"too many symbols":   sized(2001, at("a")),
		"within itself":      ring[1],
		"2^60 leaves":        doubled,
	}
}

// untidy is the term with something in each field that its kinds don't name.
func untidy(t api.Term) api.Term {
	junk := []api.Term{{Kind: 9}, nu(7)}
	switch t.Kind {
	case api.Var, api.Num:
		t.Name, t.Args = "true", junk
	case api.Atom:
		t.Int, t.Args = -7, junk
	case api.Comp:
		t.Int = -7
		t.Args = slices.Clone(t.Args)
		for i, arg := range t.Args {
			t.Args[i] = untidy(arg)
		}
	}
	return t
}

// roomy is a term in new memory, whose lists of arguments have spare room with a mark in it.
func roomy(t api.Term) api.Term {
	if t.Kind != api.Comp {
		return t
	}
	args := make([]api.Term, 0, len(t.Args)+1)
	for _, arg := range t.Args {
		args = append(args, roomy(arg))
	}
	t.Args = append(args, at("spare"))[:len(args)]
	return t
}

// unspoilt tells whether a term that roomy made is still the one that it was made of, its spare room too.
func unspoilt(t, was api.Term) bool {
	if t.Kind != was.Kind || t.Name != was.Name || t.Int != was.Int || len(t.Args) != len(was.Args) {
		return false
	}
	if t.Kind != api.Comp {
		return true
	}
	return same(t.Args[:len(t.Args)+1][len(t.Args)], at("spare")) && slices.EqualFunc(t.Args, was.Args, unspoilt)
}

// spoil writes over all memory of terms, their spare room too.
func spoil(terms ...api.Term) {
	for _, t := range terms {
		spoil(t.Args...)
		room := t.Args[:cap(t.Args)]
		for i := range room {
			room[i] = nu(-99)
		}
	}
}

// spoilAll writes over all memory of a list of terms.
func spoilAll(ts []api.Term) {
	spoil(ts...)
	room := ts[:cap(ts)]
	for i := range room {
		room[i] = nu(-99)
	}
}

// spoilReply and spoilEntries write over all memory of a reply, and of entries.
func spoilReply(r api.Reply) {
	spoilAll(r.Alts)
	spoil(r.Ball)
}

func spoilEntries(es []api.Entry) {
	for _, e := range es {
		spoil(e.Ask)
		spoilReply(e.Reply)
	}
	room := es[:cap(es)]
	for i := range room {
		room[i] = api.Entry{Pick: -9, Thread: -9, Ask: nu(-99)}
	}
}

// same tells whether two terms are alike in all fields; no list and an empty one are.
func same(a, b api.Term) bool {
	return a.Kind == b.Kind && a.Name == b.Name && a.Int == b.Int && slices.EqualFunc(a.Args, b.Args, same)
}

func sameReply(a, b api.Reply) bool {
	return a.Ok == b.Ok && slices.EqualFunc(a.Alts, b.Alts, same) && same(a.Ball, b.Ball)
}

func sameEntry(a, b api.Entry) bool {
	return a.Pick == b.Pick && a.Thread == b.Thread && same(a.Ask, b.Ask) && sameReply(a.Reply, b.Reply)
}

// terms are a text's terms.
func terms(t testing.TB, text string) []api.Term {
	t.Helper()
	all, e := read.All(ops.New(), text)
	if e != nil {
		t.Fatalf("%s isn't read: %v", text, e)
	}
	var ts []api.Term
	for _, r := range all {
		ts = append(ts, r.Term)
	}
	return ts
}

// goalOf is the goal of a text without its full stop.
func goalOf(t testing.TB, text string) api.Term {
	t.Helper()
	all := terms(t, text+" .")
	if len(all) != 1 {
		t.Fatalf("%s isn't one goal", text)
	}
	return all[0]
}

// goalsOf are the goals of texts.
func goalsOf(t testing.TB, texts ...string) []api.Term {
	t.Helper()
	var all []api.Term
	for _, text := range texts {
		all = append(all, goalOf(t, text))
	}
	return all
}

// text is a term as a text.
func text(u api.Term) string {
	if text, e := write.Text(u); e == api.OK {
		return text
	}
	return "no term of kind " + strconv.Itoa(u.Kind) + " " + u.Name
}

// replyText is a reply as a text: "yes", "no", "ball T", or the alternatives.
func replyText(r api.Reply) string {
	var all []string
	for _, alt := range r.Alts {
		all = append(all, text(alt))
	}
	alts := strings.Join(all, "; ")
	switch {
	case r.Ball.Kind != 0 && !r.Ok && alts == "":
		return "ball " + text(r.Ball)
	case r.Ball.Kind != 0:
		return "a ball, and " + alts
	case !r.Ok && alts == "":
		return "no"
	case !r.Ok:
		return "no, but " + alts
	case alts == "":
		return "yes"
	}
	return alts
}

// entryText is an entry as a text, but for its place.
func entryText(e api.Entry) string {
	return strconv.Itoa(e.Thread) + " " + text(e.Ask) + " = " + replyText(e.Reply)
}

func entryTexts(es []api.Entry) string {
	var all []string
	for _, e := range es {
		all = append(all, entryText(e))
	}
	return strings.Join(all, "\n")
}

// roomyConf is a configuration with as much as may be.
func roomyConf() api.Conf {
	return api.Conf{Threads: api.MaxThread, Cells: api.MaxCells, Limbo: api.MaxLimbo}
}

// made is a kernel with so many threads.
func made(t testing.TB, c api.Conf, threads int, static ...api.Pred) *kernel.Kernel {
	t.Helper()
	k, e := kernel.New(c, static)
	if k == nil || e != api.OK {
		t.Fatalf("New(%v) = %v, %d", c, k, e)
	}
	for n := 1; n <= threads; n++ {
		spawns(t, k, at("main"), n)
	}
	return k
}

// roomyKernel is a kernel with as much room as may be.
func roomyKernel(t testing.TB, threads int, static ...api.Pred) *kernel.Kernel {
	t.Helper()
	return made(t, roomyConf(), threads, static...)
}

// spawns makes a thread, and fails, if that isn't this one.
func spawns(t testing.TB, k *kernel.Kernel, goal api.Term, want int) {
	t.Helper()
	if n, e := k.Spawn(goal); n != want || e != api.OK {
		t.Fatalf("Spawn = %d, %d, not %d", n, e, want)
	}
}

// ends ends a thread, and fails, if it isn't ended.
func ends(t testing.TB, k *kernel.Kernel, thread int, status api.Term) {
	t.Helper()
	if e := k.End(thread, status); e != api.OK {
		t.Fatalf("End(%d, %s) = %d", thread, text(status), e)
	}
}

// begun is a job that is begun.
func begun(t testing.TB, k *kernel.Kernel, thread int, goal api.Term) *kernel.Job {
	t.Helper()
	j := k.Begin(thread, goal)
	if j == nil || j.Over() || !sameReply(j.Reply(), api.Reply{}) {
		t.Fatalf("Begin(%d, %s) = %v", thread, text(goal), j)
	}
	return j
}

// run steps a job to its end, and answers how many steps that were.
func run(t testing.TB, j *kernel.Job) int {
	t.Helper()
	for n := 1; n < 5000; n++ {
		if j.Over() || !sameReply(j.Reply(), api.Reply{}) {
			t.Fatalf("over ahead of step %d", n)
		}
		if j.Step() {
			if !j.Over() {
				t.Fatal("over, and not")
			}
			return n
		}
	}
	t.Fatal("a job has no end")
	return 0
}

// does lets a thread do a goal, and fails, if that isn't replied so, and noted in these entries; an entry's reply is yes, but for one that ends with "= no". Behind them a goal that is over with a ball is noted itself.
func does(t testing.TB, k *kernel.Kernel, thread int, goal, reply string, entries ...string) {
	t.Helper()
	doesGoal(t, k, thread, goalOf(t, goal), reply, entries...)
}

func doesGoal(t testing.TB, k *kernel.Kernel, thread int, goal api.Term, reply string, entries ...string) {
	t.Helper()
	was := k.Len()
	j := begun(t, k, thread, goal)
	run(t, j)
	if got := replyText(j.Reply()); got != reply {
		t.Fatalf("%.300s\nis replied %.300s\n       not %.300s", text(goal), got, reply)
	}
	var want []string
	for _, e := range entries {
		if !strings.HasSuffix(e, " = no") {
			e += " = yes"
		}
		want = append(want, strconv.Itoa(thread)+" "+e)
	}
	if strings.HasPrefix(reply, "ball ") {
		want = append(want, strconv.Itoa(thread)+" "+text(renamed(goal))+" = "+reply)
	}
	if got := entryTexts(k.Since(was)); got != strings.Join(want, "\n") {
		t.Fatalf("%.300s\nis noted\n%.600s\nnot\n%.600s", text(goal), got, strings.Join(want, "\n"))
	}
}

// settles lets a thread do a goal, and fails, if it isn't over behind one step, replied so, and noted itself.
func settles(t testing.TB, k *kernel.Kernel, thread int, goal, reply string) {
	t.Helper()
	settlesGoal(t, k, thread, goalOf(t, goal), reply)
}

func settlesGoal(t testing.TB, k *kernel.Kernel, thread int, goal api.Term, reply string) {
	t.Helper()
	settled(t, k, thread, begun(t, k, thread, goal), goal, reply)
}

// settled fails, if a job isn't over behind one step, replied so, and noted itself.
func settled(t testing.TB, k *kernel.Kernel, thread int, j *kernel.Job, goal api.Term, reply string) {
	t.Helper()
	was := k.Len()
	if !j.Step() || !j.Over() || replyText(j.Reply()) != reply {
		t.Fatalf("%.300s\nis replied %.300s\n       not %.300s", text(goal), replyText(j.Reply()), reply)
	}
	got := k.Since(was)
	want := api.Entry{Pick: was, Thread: thread, Ask: renamed(goal), Reply: j.Reply()}
	if len(got) != 1 || !sameEntry(got[0], want) {
		t.Fatalf("%.300s\nis noted %.300s", text(goal), entryTexts(got))
	}
	if !same(k.Asks(thread), api.Term{}) {
		t.Fatalf("%.300s is over and asked for", text(goal))
	}
}

// waits lets a thread begin a goal, and fails, if it isn't blocked then.
func waits(t testing.TB, k *kernel.Kernel, thread int, goal string) *kernel.Job {
	t.Helper()
	j := begun(t, k, thread, goalOf(t, goal))
	stays(t, k, thread, j)
	return j
}

// stays lets a job take a step, and fails, if its thread isn't blocked then, or if anything is noted.
func stays(t testing.TB, k *kernel.Kernel, thread int, j *kernel.Job) {
	t.Helper()
	was := k.Len()
	if j.Step() || j.Over() || k.State(thread) != 2 || k.Len() != was {
		t.Fatalf("%s: state %d, Over %v, %s", text(k.Asks(thread)), k.State(thread), j.Over(), entryTexts(k.Since(was)))
	}
	if j.Step() || k.State(thread) != 2 || k.Len() != was {
		t.Fatal("a blocked thread's job has gone on")
	}
}

// states fails, if the threads from 1 on aren't in these states.
func states(t testing.TB, k *kernel.Kernel, want ...int) {
	t.Helper()
	var ready []int
	for i, w := range want {
		if got := k.State(i + 1); got != w {
			t.Fatalf("thread %d is in state %d, not %d", i+1, got, w)
		}
		if w == 1 {
			ready = append(ready, i+1)
		}
	}
	if got := k.Ready(); !slices.Equal(got, ready) {
		t.Fatalf("Ready = %v, not %v", got, ready)
	}
}

// renamed is a term whose variables are 1, 2, .. in the order in which they stand in it.
func renamed(t api.Term) api.Term { return named(t, map[int64]int64{}) }

func named(t api.Term, names map[int64]int64) api.Term {
	switch t.Kind {
	case api.Var:
		if names[t.Int] == 0 {
			names[t.Int] = int64(len(names) + 1)
		}
		return va(names[t.Int])
	case api.Comp:
		var args []api.Term
		for _, arg := range t.Args {
			args = append(args, named(arg, names))
		}
		return co(t.Name, args...)
	case api.Atom:
		return at(t.Name)
	}
	return nu(t.Int)
}
