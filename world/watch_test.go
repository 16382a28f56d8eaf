package world_test

import (
	"slices"
	"strings"
	"testing"

	"pythia/api"
	"pythia/base"
	"pythia/kernel"
	"pythia/thread"
	"pythia/world"
)

// watch picks threads of a world. At every pick what is to be seen is held against threads that are stepped by hand on a kernel that has seen the same, and what is noted against plain lists, queues and mutexes; beside it there is a world that is told the same, and picked alike.
type watch struct {
	t        *testing.T
	w, alike *world.World
	k        *kernel.Kernel
	program  []api.Clause
	limits   api.Limits
	threads  map[int]*thread.Thread
	goals    []api.Term // of the threads, in order
	plain    *plain
	noted    []api.Entry
	clauses  map[int64]api.Clause // all that were ever added
	met      map[string]int       // how often something was met
}

func newWatch(t *testing.T, c api.Conf, program string, goals ...string) *watch {
	t.Helper()
	x := &watch{t: t, w: madeOver(t, c, program, goals...), alike: madeOver(t, c, program, goals...), program: clauses(t, program), limits: c.Limits,
		threads: map[int]*thread.Thread{}, clauses: map[int64]api.Clause{}, met: map[string]int{}}
	var static []api.Pred
	for _, c := range x.program {
		static = append(static, predOf(c.Head))
	}
	var e api.Errno
	if x.k, e = kernel.New(c, static); e != api.OK {
		t.Fatalf("no kernel: %d", e)
	}
	x.plain = newPlain(c.Threads, static)
	for _, text := range goals {
		g := goalOf(t, text)
		x.k.Spawn(g)
		x.plain.spawn(g)
		x.goals = append(x.goals, x.k.Goal(len(x.goals)+1))
	}
	return x
}

// byHand is a thread of the kernel's.
func (x *watch) byHand(n int) *thread.Thread {
	x.t.Helper()
	if x.threads[n] == nil {
		own, e := thread.New(x.k, n, x.program, x.limits)
		if e != api.OK {
			x.t.Fatalf("no thread %d: %d", n, e)
		}
		x.threads[n] = own
	}
	return x.threads[n]
}

// pick picks a thread, and tells whether it was ready.
func (x *watch) pick(n int) bool {
	x.t.Helper()
	isReady := x.steps(n)
	if got, also := x.w.Pick(n), x.alike.Pick(n); got != isReady || also != isReady {
		x.t.Fatalf("Pick(%d) = %v, of a world that is picked alike %v, not %v", n, got, also, isReady)
	}
	x.compare(n)
	return isReady
}

// steps lets a thread take a step by hand, if it is ready.
func (x *watch) steps(n int) bool {
	x.t.Helper()
	if x.k.State(n) != 1 {
		x.met["in vain"]++
		return false
	}
	x.byHand(n).Step()
	if x.k.State(n) == 2 {
		x.met["waits"]++
	}
	x.news()
	return true
}

// play lets a world play a script.
func (x *watch) play(picks ...int) {
	x.t.Helper()
	var want [2]int
	for _, n := range picks {
		if x.steps(n) {
			want[0]++
		} else {
			want[1]++
		}
	}
	handed := append(slices.Clone(picks), -7)[:len(picks)]
	good, bad := x.w.Play(handed...)
	good2, bad2 := x.alike.Play(picks...)
	if want != [2]int{good, bad} || want != [2]int{good2, bad2} {
		x.t.Fatalf("Play(%v) = %d, %d, not %v", picks, good, bad, want)
	}
	if !slices.Equal(handed, picks) || handed[:len(picks)+1][len(picks)] != -7 {
		x.t.Fatalf("Play has changed its picks")
	}
	x.compareAll()
}

// rest lets a world come to rest, within so many picks.
func (x *watch) rest(most int) bool {
	x.t.Helper()
	left := min(max(most, 0), api.MaxPicks)
	for ready := x.k.Ready(); left > 0 && len(ready) > 0; ready = x.k.Ready() {
		for _, n := range ready {
			if left > 0 {
				x.steps(n)
				left--
			}
		}
	}
	want := len(x.k.Ready()) == 0
	if got, also := x.w.Rest(most), x.alike.Rest(most); got != want || also != want {
		x.t.Fatalf("Rest(%d) = %v, not %v", most, got, want)
	}
	x.compareAll()
	return want
}

// compareAll holds all threads against what is to be.
func (x *watch) compareAll() {
	x.t.Helper()
	for n := range x.goals {
		x.compare(n + 1)
	}
}

// news takes up a thread that has come.
func (x *watch) news() {
	for g := x.k.Goal(len(x.goals) + 1); g.Kind != 0; g = x.k.Goal(len(x.goals) + 1) {
		x.goals = append(x.goals, g)
		x.met["created"]++
	}
}

// compare holds what is to be seen behind a pick against what is to be, and writes over what is answered.
func (x *watch) compare(n int) {
	x.t.Helper()
	if x.w.Len() != x.k.Len() || x.w.Threads() != len(x.goals) || x.w.Faults() != 0 {
		x.t.Fatalf("%d entries, %d threads, %d faults; not %d, %d, 0", x.w.Len(), x.w.Threads(), x.w.Faults(), x.k.Len(), len(x.goals))
	}
	x.note()
	for i := range x.goals {
		x.compareState(i + 1)
	}
	x.compareThread(n)
}

// compareState holds what is told of any thread at any time against what is to be. Who is blocked has a reason.
func (x *watch) compareState(n int) {
	x.t.Helper()
	state, asks := x.w.State(n), x.w.Asks(n)
	if state != x.k.State(n) || !same(asks, x.k.Asks(n)) {
		x.t.Fatalf("thread %d: state %d, asks for %s; not %d, %s", n, state, termText(asks), x.k.State(n), termText(x.k.Asks(n)))
	}
	if plainly := x.plain.state[n]; state != plainly && (state != 2 || plainly != 1) {
		x.t.Fatalf("thread %d is in state %d, by the log in %d", n, state, plainly)
	}
	if state == 2 && x.plain.waiting(n, asks) == "" {
		x.t.Fatalf("thread %d sleeps on, where %s could be done", n, termText(asks))
	}
	spoil(asks)
}

// compareThread holds all that a thread has told against what is to be.
func (x *watch) compareThread(n int) {
	x.t.Helper()
	var last api.Line
	var talk []api.Entry
	if own := x.threads[n]; own != nil {
		last, talk = own.Last(), own.Talk()
	}
	gotLast, gotTalk, gotLines := x.w.Last(n), x.w.Talk(n), x.w.Lines(n)
	if !sameLine(gotLast, last) || !slices.EqualFunc(gotTalk, talk, sameEntry) {
		x.t.Fatalf("thread %d: last %s, not %s; asked for\n%s\nnot\n%s", n, lineText(gotLast), lineText(last), entryTexts(gotTalk), entryTexts(talk))
	}
	if !slices.EqualFunc(gotLines, x.plain.lines[n], same) || !slices.EqualFunc(gotLines, x.k.Lines(n), same) {
		x.t.Fatalf("thread %d has the lines %s, not %s", n, termTexts(gotLines), termTexts(x.plain.lines[n]))
	}
	told := ""
	for _, line := range gotLines {
		told += termText(line) + "\n"
	}
	if last.Kind != 0 {
		told += lineText(last) + "\n"
	}
	if x.w.Told(n) != told {
		x.t.Fatalf("thread %d has told %q, not %q", n, x.w.Told(n), told)
	}
	spoil(gotLast.Term)
	spoilEntries(gotTalk)
	spoilAll(gotLines)
}

// note does what is newly noted on plain lists, queues and mutexes.
func (x *watch) note() {
	x.t.Helper()
	if x.w.Len() == len(x.noted) {
		return
	}
	log := x.w.Log()
	for i, e := range log {
		if i < len(x.noted) {
			if !sameEntry(e, x.noted[i]) {
				x.t.Fatalf("entry %d was %s, and is %s", i, entryText(x.noted[i]), entryText(e))
			}
			continue
		}
		if want := x.plainly(e); e.Pick != i || !sameReply(e.Reply, want) {
			x.t.Fatalf("entry %d: %s, not %s", i, entryText(e), replyText(want))
		}
		x.noted = append(x.noted, x.k.Since(i)[0])
	}
	spoilEntries(log)
}

// plainly is what plain lists, queues and mutexes answer to what is noted.
func (x *watch) plainly(e api.Entry) api.Reply {
	x.t.Helper()
	if x.plain.state[e.Thread] != 1 {
		x.t.Fatalf("%s, of a thread in state %d", entryText(e), x.plain.state[e.Thread])
	}
	switch e.Ask.Name {
	case "$add", "$push":
		head, body, _ := parts(e.Ask.Args[0])
		if id := e.Ask.Args[1].Int; x.clauses[id].Head.Kind != 0 {
			x.t.Fatalf("%s: this number was another clause's", entryText(e))
		}
		x.clauses[e.Ask.Args[1].Int] = own(api.Clause{Head: head, Body: body})
	case "$read":
		p := pred(e.Ask.Args[0].Args[0].Name, int(e.Ask.Args[0].Args[1].Int))
		if !same(e.Ask.Args[1], x.plain.listed(p)) {
			x.t.Fatalf("%s, where there are %s", entryText(e), termText(x.plain.listed(p)))
		}
	}
	if strings.HasPrefix(e.Ask.Name, "$") {
		return x.plain.entry(e.Thread, renamed(e.Ask))
	}
	if x.plain.waiting(e.Thread, e.Ask) != "" {
		x.t.Fatalf("%s, where it had to wait", entryText(e))
	}
	if x.plain.mayLack(e.Ask, e.Reply) {
		x.met["lacks"]++
		return e.Reply
	}
	if _, isThere := x.plain.clauses[predOf(e.Ask)]; isThere {
		x.t.Fatalf("%s, of a predicate that has had clauses", entryText(e))
	}
	return x.plain.do(e.Thread, renamed(e.Ask))
}

// own is a clause in memory of its own.
func own(c api.Clause) api.Clause {
	u := renamed(base.Term(c))
	return api.Clause{Head: u.Args[0], Body: u.Args[1]}
}

// close holds each thread against the rules of layer 19, and against what was noted of it; and both worlds against one another.
func (x *watch) close() {
	x.t.Helper()
	for i, g := range x.goals {
		x.compareThread(i + 1)
		if isRuled(x.t, x.w, i+1, x.program, g) {
			x.met["ruled"]++
		} else {
			x.met["beyond the rules"]++
		}
		x.follows(i + 1)
		x.met[strings.Fields(lineText(x.w.Last(i + 1)))[0]]++
	}
	if !slices.EqualFunc(x.w.Log(), x.k.Log(), sameEntry) || !slices.EqualFunc(x.noted, x.k.Log(), sameEntry) {
		x.t.Fatalf("the log is\n%s\nnot\n%s", entryTexts(x.w.Log()), entryTexts(x.k.Log()))
	}
	if one, two := view(x.w), view(x.alike); one != two {
		x.t.Fatalf("two worlds that were picked alike tell\n%s\nand\n%s", one, two)
	}
}

// follows fails, if what a thread was told doesn't follow from what was noted of it.
func (x *watch) follows(n int) {
	x.t.Helper()
	var noted []api.Entry
	for _, e := range x.noted {
		if e.Thread == n {
			noted = append(noted, e)
		}
	}
	for _, e := range x.w.Talk(n) {
		want, rest := x.reply(e.Ask, noted)
		if !sameReply(e.Reply, want) {
			x.t.Fatalf("thread %d was told %s, of which was noted\n%s", n, entryText(e), entryTexts(noted[:len(noted)-len(rest)]))
		}
		x.met[kindOf(want)]++
		noted = rest
	}
	switch {
	case x.w.Asks(n).Kind != 0: // what is under way may have been noted
	case len(noted) == 0 && x.w.Last(n).Kind == 0:
	case len(noted) == 1 && noted[0].Ask.Name == "$end" && x.w.Last(n).Kind != 0:
	default:
		x.t.Fatalf("of thread %d, %s, was noted\n%s", n, lineText(x.w.Last(n)), entryTexts(noted))
	}
}

// reply is what a goal is replied, by what was noted of its thread from there on; and what was noted behind it.
func (x *watch) reply(g api.Term, noted []api.Entry) (api.Reply, []api.Entry) {
	x.t.Helper()
	var found []base.Found
	for i, e := range noted {
		rest := noted[i+1:]
		switch {
		case same(e.Ask, g):
			return e.Reply, rest
		case e.Ask.Name == "$add" || e.Ask.Name == "$push":
			return api.Reply{Ok: true}, rest
		case e.Ask.Name == "$cut" && e.Reply.Ok:
			return given("retract", x.written(e.Ask.Args[1].Int, g.Args[0])), rest
		case e.Ask.Name == "$read":
			found = x.fitting(g, numbers(e.Ask.Args[1]))
			if r, isAll := x.told(g, found); isAll {
				return r, rest
			}
		case e.Ask.Name == "$cut" && e.Ask.Args[1].Int == found[len(found)-1].Id:
			return api.Reply{}, rest
		}
	}
	x.t.Fatalf("%s: nothing says what is replied in\n%s", termText(g), entryTexts(noted))
	return api.Reply{}, nil
}

// numbers are those of a list, or of a list of lists.
func numbers(l api.Term) []int64 {
	var all []int64
	for ; l.Kind == api.Comp; l = l.Args[1] {
		if item := l.Args[0]; item.Kind == api.Num {
			all = append(all, item.Int)
		} else {
			all = append(all, numbers(item)...)
		}
	}
	return all
}

// fitting are those clauses of some numbers that a goal is about.
func (x *watch) fitting(g api.Term, ids []int64) []base.Found {
	wanted := co(":-", va(1), va(2))
	switch goalName(g) {
	case "clause/2":
		wanted = co(":-", g.Args...)
	case "retract/1":
		head, body, _ := parts(g.Args[0])
		wanted = co(":-", head, body)
	}
	var all []base.Found
	for _, id := range ids {
		if c := x.clauses[id]; solvable(wanted, base.Term(c)) {
			all = append(all, base.Found{Id: id, Clause: c})
		}
	}
	return all
}

// told is what a goal is replied that has found these clauses, if that is settled by this alone.
func (x *watch) told(g api.Term, found []base.Found) (api.Reply, bool) {
	var alts []api.Term
	for _, f := range found {
		if goalName(g) == "clause/2" {
			alts = append(alts, co("clause", f.Clause.Head, f.Clause.Body))
		} else {
			alts = append(alts, base.Term(f.Clause))
		}
	}
	return api.Reply{Ok: len(alts) > 0, Alts: alts}, goalName(g) != "retract/1" || len(found) == 0
}

// written is a clause, as a goal has it written.
func (x *watch) written(id int64, as api.Term) api.Term {
	if _, _, written := parts(as); written {
		return base.Term(x.clauses[id])
	}
	return x.clauses[id].Head
}

// kindOf is the kind of a reply.
func kindOf(r api.Reply) string {
	switch {
	case r.Ball.Kind != 0:
		return "reply ball"
	case !r.Ok:
		return "reply no"
	case len(r.Alts) == 0:
		return "reply yes"
	}
	return "reply alts"
}

// ready are the threads that are ready.
func (x *watch) ready() []int {
	var all []int
	for n := range x.w.Threads() {
		if x.w.State(n+1) == 1 {
			all = append(all, n+1)
		}
	}
	return all
}
