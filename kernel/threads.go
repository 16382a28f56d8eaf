package kernel

import "pythia/api"

func (j *Job) tellSelf() { j.settle(j.giving(number(int64(j.thread)))) }

// createThread makes a thread.
func (j *Job) createThread() {
	goal := j.goal.Args[0]
	switch goal.Kind {
	case api.Var:
		j.throw(unbound())
		return
	case api.Num:
		j.throw(wrongType("callable", goal))
		return
	}
	t, err := j.kernel.Spawn(goal)
	if err != api.OK {
		j.throw(exhausted("threads"))
		return
	}
	j.settle(j.giving(api.Term{Kind: api.Var, Int: 1}, number(int64(t))))
}

// join waits till a thread is over, and lets it go.
func (j *Job) join() {
	t, ok := j.target()
	if !ok {
		return
	}
	switch state := j.kernel.State(t); {
	case t == j.thread:
		j.throw(forbidden("join", "thread", j.goal.Args[0]))
	case state == gone:
		j.throw(missing("thread", j.goal.Args[0]))
	case state != over:
		j.wait(forThread, t)
	default:
		status := j.kernel.threads[t].status
		j.kernel.free(t)
		j.settle(j.giving(j.goal.Args[0], status))
	}
}
