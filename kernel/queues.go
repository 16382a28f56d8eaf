package kernel

import (
	"math"

	"pythia/api"
)

func (j *Job) createQueue() { j.makeQueue(api.MaxQueue) }

// createQueueOf makes a queue of a size.
func (j *Job) createQueueOf() {
	most := j.goal.Args[1]
	switch most.Kind {
	case api.Num:
		j.makeQueue(int(min(max(most.Int, math.MinInt32), math.MaxInt32)), most) // so that it is an int
	case api.Var:
		j.throw(unbound())
	default:
		j.throw(wrongType("integer", most))
	}
}

// makeQueue makes a queue; further arguments of the goal stay.
func (j *Job) makeQueue(most int, further ...api.Term) {
	q, err := j.kernel.post.Make(most)
	if err != api.OK {
		j.throw(exhausted("message_queues"))
		return
	}
	j.settle(j.giving(append([]api.Term{number(int64(q))}, further...)...))
}

func (j *Job) noQueue() { j.throw(missing("message_queue", j.goal.Args[0])) }

// destroyQueue lets a queue go.
func (j *Job) destroyQueue() {
	q, ok := j.target()
	switch {
	case !ok:
	case j.kernel.post.Drop(q) != api.OK:
		j.noQueue()
	default:
		j.kernel.wake(forQueue, q)
		j.settle(api.Reply{Ok: true})
	}
}

// send sends a message.
func (j *Job) send() {
	q, ok := j.target()
	if !ok {
		return
	}
	switch j.kernel.post.Send(q, j.goal.Args[1]) {
	case api.OK:
		j.kernel.wake(forQueue, q)
		j.settle(api.Reply{Ok: true})
	case api.ErrWait:
		j.wait(forQueue, q)
	default:
		j.noQueue()
	}
}

// get takes a message.
func (j *Job) get() {
	q, ok := j.target()
	if !ok {
		return
	}
	switch message, err := j.kernel.post.Get(q, j.goal.Args[1]); err {
	case api.OK:
		j.kernel.wake(forQueue, q)
		j.settle(j.giving(j.goal.Args[0], message))
	case api.ErrWait:
		j.wait(forQueue, q)
	default:
		j.noQueue()
	}
}

// peek looks at a message.
func (j *Job) peek() {
	q, ok := j.target()
	if !ok {
		return
	}
	switch message, err := j.kernel.post.Peek(q, j.goal.Args[1]); err {
	case api.OK:
		j.settle(j.giving(j.goal.Args[0], message))
	case api.ErrWait:
		j.settle(api.Reply{})
	default:
		j.noQueue()
	}
}
