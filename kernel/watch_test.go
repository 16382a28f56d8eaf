package kernel_test

import (
	"maps"
	"slices"
	"strings"
	"testing"

	"pythia/api"
	"pythia/base"
	"pythia/kernel"
)

// watch plays jobs on a kernel. Each step is held against plain lists, queues and mutexes; beside each job of the DB, operations are stepped on a DB of its own.
type watch struct {
	t      *testing.T
	k      *kernel.Kernel
	conf   api.Conf
	static []api.Pred
	plain  *plain
	db     *base.DB
	places [api.MaxThread]int // which thread each of the DB's is
	way    map[int]*watched   // jobs under way, by their threads
	log    []api.Entry
	spawns map[int][]api.Term // goals of threads that were made at a length of the log, by nobody's job
	told   map[string]int     // how often a reply of a kind was told
}

// watched is a job under way.
type watched struct {
	thread int
	job    *kernel.Job
	goal   api.Term
	op     *base.Op
	erase  bool // is it an Erase?
	pred   api.Pred
	found  []base.Found // clauses that are to be taken away, one after the other
	over   bool
	reply  api.Reply
}

func newWatch(t *testing.T, c api.Conf, static ...api.Pred) *watch {
	t.Helper()
	d, e := base.New(c.Cells, c.Limbo)
	if e != api.OK {
		t.Fatalf("no DB in %d cells", c.Cells)
	}
	return &watch{t: t, k: made(t, c, 0, static...), conf: c, static: static, plain: newPlain(c.Threads, static), db: d,
		way: map[int]*watched{}, spawns: map[int][]api.Term{}, told: map[string]int{}}
}

// spawn makes a thread, if there is room.
func (w *watch) spawn(goal api.Term) int {
	w.t.Helper()
	handed := roomy(goal)
	n, e := w.k.Spawn(handed)
	if !unspoilt(handed, goal) {
		w.t.Fatalf("Spawn has changed %s", text(goal))
	}
	spoil(handed)
	want := w.plain.spawn(goal)
	if n != want || (e == api.OK) != (want > 0) {
		w.t.Fatalf("Spawn = %d, %d, not %d", n, e, want)
	}
	if want > 0 {
		w.spawns[len(w.log)] = append(w.spawns[len(w.log)], goal)
	}
	w.seat()
	w.compare()
	return n
}

// seat gives each thread that is new the place in the DB of its number, counted round, or the next one that is nobody's.
func (w *watch) seat() {
	for i, t := range w.places {
		if w.plain.state[t] == 0 {
			w.places[i] = 0
		}
	}
	for _, t := range slices.Sorted(maps.Keys(w.plain.state)) {
		if w.plain.state[t] == 0 || slices.Contains(w.places[:], t) {
			continue
		}
		i := (t - 1) % 8
		for w.places[i] != 0 {
			i = (i + 1) % 8
		}
		w.places[i] = t
	}
}

func (w *watch) placeOf(t int) int { return slices.Index(w.places[:], t) + 1 }

// begin begins a job of a thread that is ready and has none.
func (w *watch) begin(thread int, goal api.Term) *watched {
	w.t.Helper()
	handed := roomy(goal)
	x := &watched{thread: thread, goal: renamed(goal)}
	x.job = begun(w.t, w.k, thread, handed)
	if !unspoilt(handed, goal) {
		w.t.Fatalf("Begin has changed %s", text(goal))
	}
	spoil(handed)
	w.way[thread] = x
	w.compare()
	return x
}

// end ends a thread that is ready and has no job.
func (w *watch) end(thread int, status api.Term) {
	w.t.Helper()
	handed := roomy(status)
	ends(w.t, w.k, thread, handed)
	if !unspoilt(handed, status) {
		w.t.Fatalf("End has changed %s", text(status))
	}
	spoil(handed)
	ask := co("$end", renamed(status))
	w.note(thread, ask, w.plain.entry(thread, ask))
	w.compare()
}

// note notes what is to be in the log.
func (w *watch) note(thread int, ask api.Term, r api.Reply) {
	w.log = append(w.log, api.Entry{Pick: len(w.log), Thread: thread, Ask: ask, Reply: r})
}

// step lets a job do a step.
func (w *watch) step(x *watched) bool {
	w.t.Helper()
	if w.plain.state[x.thread] == 1 && !x.over {
		w.beside(x)
	}
	if got := x.job.Step(); got != x.over || x.job.Over() != x.over {
		w.t.Fatalf("%s: Step %v, Over %v, not %v", text(x.goal), got, x.job.Over(), x.over)
	}
	for range 2 {
		r := x.job.Reply()
		if !sameReply(r, x.reply) {
			w.t.Fatalf("%s\nis replied %s\nnot        %s", text(x.goal), replyText(r), replyText(x.reply))
		}
		spoilReply(r)
	}
	w.compare()
	return x.over
}

// beside does what a step is to do.
func (w *watch) beside(x *watched) {
	if x.op == nil && !w.needsDB(x.goal) {
		if what := w.plain.waiting(x.thread, x.goal); what != "" {
			w.plain.block(x.thread, what)
			kind, _, _ := strings.Cut(what, " ")
			w.told["waits "+kind]++
			return
		}
		r := w.plain.do(x.thread, x.goal)
		w.note(x.thread, x.goal, r)
		w.finish(x, r)
		w.seat()
		return
	}
	if x.op == nil {
		w.first(x)
	}
	done, over := x.op.Done(), x.op.Step()
	if x.op.Done() && !done {
		ask := w.entryOf(x)
		w.note(x.thread, ask, w.plain.entry(x.thread, ask))
	}
	if over {
		w.behind(x, x.op.Answer())
	}
}

// finish ends a job.
func (w *watch) finish(x *watched, r api.Reply) {
	x.over, x.reply = true, r
	delete(w.way, x.thread)
	kind := "yes"
	switch {
	case r.Ball.Kind != 0 && r.Ball.Args[0].Kind == api.Comp:
		kind = text(r.Ball.Args[0].Args[0])
	case r.Ball.Kind != 0:
		kind = "inst"
	case len(r.Alts) > 0:
		kind = "alts"
	case !r.Ok:
		kind = "no"
	}
	name := x.goal.Name
	if !aboutClauses(x.goal) && !slices.Contains(ownGoals(), goalName(x.goal)) {
		name = "goal"
	}
	w.told[name+" "+kind]++
}

// needsDB tells whether a goal is done by operations on the DB.
func (w *watch) needsDB(g api.Term) bool {
	if great(g) {
		return false
	}
	if aboutClauses(g) {
		_, flaw := w.plain.flaw(g)
		return !flaw
	}
	return !slices.Contains(ownGoals(), goalName(g)) && w.db.Is(predOf(g))
}

// first begins a job's first operation.
func (w *watch) first(x *watched) {
	place := w.placeOf(x.thread)
	if !aboutClauses(x.goal) {
		x.pred = predOf(x.goal)
		x.op = w.db.All(place, x.pred)
		return
	}
	head, body, _ := parts(x.goal.Args[0])
	if x.goal.Name == "clause" {
		head = x.goal.Args[0]
	}
	x.pred = predOf(head)
	switch x.goal.Name {
	case "assertz", "asserta":
		x.op = w.db.Assert(place, api.Clause{Head: head, Body: body}, x.goal.Name == "asserta")
	default:
		x.op = w.db.All(place, x.pred)
	}
}

// entryOf is what is asked in the entry of the operation that has taken effect now.
func (w *watch) entryOf(x *watched) api.Term {
	switch {
	case x.erase:
		return co("$cut", slash(x.pred), nu(x.found[0].Id))
	case x.goal.Name == "assertz" || x.goal.Name == "asserta":
		head, body, _ := parts(x.goal.Args[0])
		name := map[string]string{"assertz": "$add", "asserta": "$push"}[x.goal.Name]
		return co(name, renamed(co(":-", head, body)), nu(x.op.Id()))
	}
	return co("$read", slash(x.pred), w.plain.listed(x.pred))
}

// behind goes on behind an operation.
func (w *watch) behind(x *watched, a base.Answer) {
	name := x.goal.Name
	switch {
	case a.Err == api.ErrMany:
		w.lack(x, "clauses")
	case a.Err != api.OK:
		w.lack(x, "cells")
	case !aboutClauses(x.goal):
		var alts []api.Term
		for _, f := range a.Found {
			alts = append(alts, co(":-", f.Clause.Head, f.Clause.Body))
		}
		w.finish(x, api.Reply{Ok: len(alts) > 0, Alts: alts})
	case name == "assertz" || name == "asserta":
		w.finish(x, api.Reply{Ok: true})
	case name == "clause":
		var alts []api.Term
		for _, f := range a.Found {
			if alt := co("clause", f.Clause.Head, f.Clause.Body); solvable(x.goal, alt) {
				alts = append(alts, alt)
			}
		}
		w.finish(x, api.Reply{Ok: len(alts) > 0, Alts: alts})
	case x.erase && a.Ok:
		c := x.found[0].Clause
		u := c.Head
		if _, _, written := parts(x.goal.Args[0]); written {
			u = co(":-", c.Head, c.Body)
		}
		w.finish(x, given("retract", u))
	default:
		w.eraseNext(x, a)
	}
}

// lack ends a job that has found no room: nothing else that is noted says so but its own entry.
func (w *watch) lack(x *watched, what string) {
	r := thrown("resource_error", at(what))
	w.note(x.thread, x.goal, r)
	w.finish(x, r)
}

// eraseNext goes on to the next clause that a retract could take.
func (w *watch) eraseNext(x *watched, a base.Answer) {
	if x.erase {
		x.found = x.found[1:]
		w.told["retract beaten"]++
	} else {
		head, body, _ := parts(x.goal.Args[0])
		for _, f := range a.Found {
			if solvable(co(":-", head, body), co(":-", f.Clause.Head, f.Clause.Body)) {
				x.found = append(x.found, f)
			}
		}
	}
	if len(x.found) == 0 {
		w.finish(x, api.Reply{})
		return
	}
	x.erase = true
	x.op = w.db.Erase(w.placeOf(x.thread), x.pred, x.found[0].Id)
}

// compare holds all that is to be seen against what is to be, and writes over what is answered.
func (w *watch) compare() {
	w.t.Helper()
	from := max(len(w.log)-3, 0)
	news := w.k.Since(from)
	if w.k.Len() != len(w.log) || !slices.EqualFunc(news, w.log[from:], sameEntry) {
		w.t.Fatalf("noted is\n%s\nnot\n%s", entryTexts(news), entryTexts(w.log[from:]))
	}
	spoilEntries(news)
	ready := w.k.Ready()
	if !slices.Equal(ready, w.plain.ready()) {
		w.t.Fatalf("Ready = %v, not %v", ready, w.plain.ready())
	}
	spoilInts(ready)
	for t, want := range w.plain.state {
		if got := w.k.State(t); got != want {
			w.t.Fatalf("thread %d is in state %d, not %d", t, got, want)
		}
		var asked api.Term
		if x := w.way[t]; x != nil {
			asked = x.goal
		}
		got := w.k.Asks(t)
		if !same(got, asked) {
			w.t.Fatalf("thread %d asks for %s, not %s", t, text(got), text(asked))
		}
		spoil(got)
		if want == 2 && w.plain.waiting(t, asked) == "" {
			w.t.Fatalf("thread %d sleeps on, where %s could be done", t, text(asked))
		}
	}
	if w.k.Faults() != 0 || w.db.Faults() != 0 {
		w.t.Fatalf("%d faults", w.k.Faults())
	}
}

func spoilInts(ns []int) {
	for i := range ns[:cap(ns)] {
		ns[:cap(ns)][i] = -9
	}
}

// close holds lines, goals and the whole log against what is to be, and does each entry of the log once more on plain lists, queues and mutexes.
func (w *watch) close() {
	w.t.Helper()
	for t := range w.plain.state {
		for range 2 {
			lines, goal := w.k.Lines(t), w.k.Goal(t)
			if !slices.EqualFunc(lines, w.plain.lines[t], same) || !same(goal, w.plain.goals[t]) {
				w.t.Fatalf("thread %d: goal %s, lines %v", t, text(goal), lines)
			}
			spoilAll(lines)
			spoil(goal)
		}
	}
	log := w.k.Log()
	again := newPlain(w.conf.Threads, w.static)
	for i, e := range log {
		for _, goal := range w.spawns[i] {
			again.spawn(goal)
		}
		var want api.Reply
		switch {
		case again.state[e.Thread] != 1:
			w.t.Fatalf("%s, of a thread in state %d", entryText(e), again.state[e.Thread])
		case e.Ask.Name[0] == '$':
			want = again.entry(e.Thread, e.Ask)
		case again.waiting(e.Thread, e.Ask) != "":
			w.t.Fatalf("%s, where it had to wait", entryText(e))
		case again.mayLack(e.Ask, e.Reply):
			want = e.Reply
		default:
			want = again.do(e.Thread, e.Ask)
		}
		if e.Pick != i || !sameReply(e.Reply, want) {
			w.t.Fatalf("entry %d: %s, not %s", i, entryText(e), replyText(want))
		}
	}
	spoilEntries(log)
	if w.k.Len() != len(w.log) || !slices.EqualFunc(w.k.Log(), w.log, sameEntry) {
		w.t.Fatal("the log has changed")
	}
}

// steal lets a job do so many steps, as long as it isn't over and its thread is ready.
func (w *watch) steal(x *watched, n int) {
	w.t.Helper()
	for ; n > 0 && !x.over && w.plain.state[x.thread] == 1; n-- {
		w.step(x)
	}
}

// turns steps all jobs by turns, till each is over or waits.
func (w *watch) turns() {
	w.t.Helper()
	for going := true; going; {
		going = false
		for _, t := range slices.Sorted(maps.Keys(w.way)) {
			if x := w.way[t]; x != nil && w.plain.state[t] == 1 {
				w.step(x)
				going = true
			}
		}
	}
}
