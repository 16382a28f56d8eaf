package thread_test

import (
	"maps"
	"slices"
	"testing"

	"pythia/api"
	"pythia/kernel"
	"pythia/thread"
	"pythia/wam"
)

// watch steps threads of one kernel. Beside them machines and jobs are stepped by hand on a kernel that has seen the same: what is to be seen is held against that at every step.
type watch struct {
	t       *testing.T
	k, twin *kernel.Kernel
	program []api.Clause
	limits  api.Limits
	threads map[int]*watched
	met     map[string]int // how often something was met
}

// watched is a thread, and what is to come of it.
type watched struct {
	x       *thread.Thread
	number  int
	goal    api.Term
	machine *wam.Machine
	job     *kernel.Job
	asked   api.Term
	talk    []api.Entry
	last    api.Line
	over    bool
}

func newWatch(t *testing.T, c api.Conf, program []api.Clause, l api.Limits, goals ...api.Term) *watch {
	t.Helper()
	w := &watch{t: t, program: program, limits: l, threads: map[int]*watched{}, met: map[string]int{}}
	for _, k := range []**kernel.Kernel{&w.k, &w.twin} {
		own, e := kernel.New(c, nil)
		if e != api.OK {
			t.Fatalf("no kernel: %d", e)
		}
		for i, g := range goals {
			if n, e := own.Spawn(g); n != i+1 || e != api.OK {
				t.Fatalf("Spawn = %d, %d", n, e)
			}
		}
		*k = own
	}
	w.news()
	return w
}

// news makes threads of those of the kernel's that have come.
func (w *watch) news() {
	w.t.Helper()
	for n := len(w.threads) + 1; w.twin.Goal(n).Kind != 0; n++ {
		x := &watched{number: n, goal: w.twin.Goal(n)}
		x.x = made(w.t, w.k, n, w.program, w.limits)
		x.machine, _ = wam.New(w.program, x.goal, w.limits)
		w.threads[n] = x
	}
}

// step lets a thread do a step.
func (w *watch) step(n int) {
	w.t.Helper()
	x := w.threads[n]
	if w.twin.State(n) == 1 {
		w.beside(x)
	} else {
		w.met["in vain"]++
	}
	if got := x.x.Step(); got != x.over {
		w.t.Fatalf("thread %d: Step = %v in state %d", n, got, w.twin.State(n))
	}
	w.compare(x)
	w.news()
}

// beside does what a step is to do.
func (w *watch) beside(x *watched) {
	if x.job == nil {
		e := x.machine.Run(1)
		switch e.Kind {
		case api.EvNone:
			return
		case api.EvAsk:
			x.asked = e.Term
			x.job = w.twin.Begin(x.number, e.Term)
		default:
			w.end(x, e)
			return
		}
	}
	if !x.job.Step() {
		if w.twin.State(x.number) == 2 {
			w.met["waits"]++
		}
		return
	}
	r := x.job.Reply()
	x.talk = append(x.talk, api.Entry{Pick: len(x.talk), Thread: x.number, Ask: x.asked, Reply: r})
	if e := x.machine.Reply(r); e != api.OK {
		w.t.Fatalf("%s: the machine refuses %s", termText(x.asked), replyText(r))
	}
	x.job = nil
	w.met["reply "+kindOf(r)]++
}

// kindOf is the kind of a reply.
func kindOf(r api.Reply) string {
	switch {
	case r.Ball.Kind != 0:
		return "ball"
	case !r.Ok:
		return "no"
	case len(r.Alts) == 0:
		return "yes"
	}
	return "alts"
}

// end ends a thread beside.
func (w *watch) end(x *watched, e api.Event) {
	x.over, x.last = true, api.Line(e)
	var status api.Term
	switch e.Kind {
	case api.EvAnswer:
		status = at("true")
	case api.EvFail:
		status = at("false")
	case api.EvError:
		status = co("exception", e.Term)
	case api.EvLimit:
		status = co("limit", e.Term.Args[0])
	}
	w.met[lineText(api.Line{Kind: e.Kind})]++
	switch w.twin.End(x.number, status) {
	case api.OK:
	case api.ErrTerm:
		w.met["refused"]++
		w.twin.End(x.number, co("limit", at("term")))
	default:
		w.t.Fatalf("thread %d can't be ended", x.number)
	}
}

// compare holds what is to be seen behind a thread's step against what is to be, and writes over what is answered.
func (w *watch) compare(x *watched) {
	w.t.Helper()
	last, talk := x.x.Last(), x.x.Talk()
	if x.x.Over() != x.over || !sameLine(last, x.last) {
		w.t.Fatalf("thread %d: over %v with %s, not %v with %s", x.number, x.x.Over(), lineText(last), x.over, lineText(x.last))
	}
	if !slices.EqualFunc(talk, x.talk, sameEntry) {
		w.t.Fatalf("thread %d has asked for\n%s\nnot\n%s", x.number, entryTexts(talk), entryTexts(x.talk))
	}
	spoil(last.Term)
	spoilEntries(talk)
	if from := max(w.twin.Len()-3, 0); w.k.Len() != w.twin.Len() || !slices.EqualFunc(w.k.Since(from), w.twin.Since(from), sameEntry) {
		w.t.Fatalf("noted is\n%s\nnot\n%s", entryTexts(w.k.Since(from)), entryTexts(w.twin.Since(from)))
	}
	for n := range w.threads {
		if w.k.State(n) != w.twin.State(n) || !same(w.k.Asks(n), w.twin.Asks(n)) {
			w.t.Fatalf("thread %d: state %d, asks for %s; not %d, %s", n, w.k.State(n), termText(w.k.Asks(n)), w.twin.State(n), termText(w.twin.Asks(n)))
		}
	}
}

// close holds all threads against what is to be, also those that haven't taken a step lately, and against the rules of layer 19.
func (w *watch) close() {
	w.t.Helper()
	for n, x := range w.threads {
		for range 2 {
			w.compare(x)
		}
		if isRuled(w.t, x.x, w.program, x.goal, w.k.Asks(n)) {
			w.met["ruled"]++
		} else {
			w.met["beyond the rules"]++
		}
		if !slices.EqualFunc(w.k.Lines(n), w.twin.Lines(n), same) {
			w.t.Fatalf("thread %d has told other lines", n)
		}
	}
	if !slices.EqualFunc(w.k.Log(), w.twin.Log(), sameEntry) || w.k.Faults() != 0 {
		w.t.Fatalf("the log is\n%s\nnot\n%s", entryTexts(w.k.Log()), entryTexts(w.twin.Log()))
	}
}

// turns steps all threads by turns, round after round, at most so many, till none is ready.
func (w *watch) turns(most int) {
	w.t.Helper()
	for range most {
		if len(w.twin.Ready()) == 0 {
			return
		}
		for _, n := range slices.Sorted(maps.Keys(w.threads)) {
			w.step(n)
		}
	}
}
