package kernel

import "pythia/api"

// What a thread waits for.
const (
	forThread = iota
	forQueue
	forMutex
	kinds
)

// keyOf is the key on which those are blocked that wait for a thread, a queue or a mutex of a number.
func keyOf(kind, n int) int { return n*kinds + kind }

// wait blocks the job's thread; its next step looks anew.
func (j *Job) wait(kind, n int) { j.kernel.sched.Block(j.thread, keyOf(kind, n)) }

// wake makes those ready that wait.
func (k *Kernel) wake(kind, n int) { k.sched.Wake(keyOf(kind, n)) }

// target is the number in a goal's first argument: 0, which is nobody's, if it is no int. Without a number the job ends with a ball.
func (j *Job) target() (int, bool) {
	t := j.goal.Args[0]
	switch t.Kind {
	case api.Num:
		n := int(t.Int)
		if int64(n) != t.Int {
			n = 0
		}
		return n, true
	case api.Var:
		j.throw(unbound())
	default:
		j.throw(wrongType("integer", t))
	}
	return 0, false
}
