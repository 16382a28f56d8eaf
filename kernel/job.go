package kernel

import (
	"pythia/api"
	"pythia/base"
	"pythia/term"
)

// Job is a goal under way.
type Job struct {
	kernel *Kernel
	thread int
	goal   api.Term   // renamed
	next   func(*Job) // what the next step does; none, when the job is over
	op     *operation // what the next step is one of, if it is a DB step
	reply  api.Reply
}

// operation is an operation of the DB that a job does.
type operation struct {
	*base.Op
	entry func() (api.Term, bool) // asked when it takes effect: what is noted then, and whether that is Ok
	then  func(a base.Answer)     // what goes on behind it
}

// Begin begins a job.
func (k *Kernel) Begin(t int, ask api.Term) *Job {
	if k.State(t) != ready || k.threads[t].job != nil {
		return nil
	}
	goal, _, err := term.Rename(ask, 1)
	if err != api.OK {
		return nil
	}
	p, ok := base.Of(goal)
	if !ok {
		return nil
	}
	j := &Job{kernel: k, thread: t, goal: goal, next: wayOf(p)}
	if isTooGreat(goal) {
		j.next = (*Job).refuse
	}
	k.threads[t].job = j
	return j
}

// Over tells whether a job is over.
func (j *Job) Over() bool { return j.next == nil }

// Reply is a job's reply.
func (j *Job) Reply() api.Reply { return replyAnew(j.reply) }

// Step does a step of a job.
func (j *Job) Step() bool {
	if !j.Over() && j.kernel.State(j.thread) == ready {
		j.next(j)
	}
	return j.Over()
}

// begin begins an operation, with its first step.
func (j *Job) begin(o operation) {
	j.prepare(o)
	j.goOn()
}

// prepare lets the next step be an operation's first one.
func (j *Job) prepare(o operation) {
	j.op = &o
	j.next = (*Job).goOn
}

// goOn does a step of the operation under way. What that does is noted as soon as it has taken effect, which others see ahead of its end.
func (j *Job) goOn() {
	o := j.op
	was := o.Done()
	isOver := o.Step()
	if o.Done() && !was {
		ask, ok := o.entry()
		j.kernel.note(j.thread, ask, api.Reply{Ok: ok})
	}
	if isOver {
		o.then(o.Answer())
	}
}

// finish ends a job whose reply follows from what was noted of its operations.
func (j *Job) finish(r api.Reply) {
	j.reply = r
	j.next = nil
	j.op = nil
	j.kernel.threads[j.thread].job = nil
}

// settle ends a job whose reply follows from no operation, there being none or one with an error: so it is noted itself.
func (j *Job) settle(r api.Reply) {
	j.kernel.note(j.thread, j.goal, r)
	j.finish(r)
}

// throw settles a job with a ball.
func (j *Job) throw(ball api.Term) { j.settle(api.Reply{Ball: ball}) }

// giving is the reply that gives the job's goal with other arguments.
func (j *Job) giving(args ...api.Term) api.Reply {
	return api.Reply{Ok: true, Alts: []api.Term{compound(j.goal.Name, args...)}}
}

func (j *Job) refuse() { j.throw(exhausted("term")) }
