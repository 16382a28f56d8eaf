package kernel

import "pythia/api"

// createMutex makes a mutex.
func (j *Job) createMutex() {
	m, err := j.kernel.locks.Make()
	if err != api.OK {
		j.throw(exhausted("mutexes"))
		return
	}
	j.settle(j.giving(number(int64(m))))
}

func (j *Job) noMutex() { j.throw(missing("mutex", j.goal.Args[0])) }

// lock takes a mutex.
func (j *Job) lock() {
	m, ok := j.target()
	if !ok {
		return
	}
	switch j.kernel.locks.Take(m, j.thread) {
	case api.OK:
		j.settle(api.Reply{Ok: true})
	case api.ErrWait:
		j.wait(forMutex, m)
	default:
		j.noMutex()
	}
}

// unlock gives a mutex back once.
func (j *Job) unlock() {
	m, ok := j.target()
	if !ok {
		return
	}
	switch j.kernel.locks.Give(m, j.thread) {
	case api.OK:
		if _, times := j.kernel.locks.Owner(m); times == 0 { // else nobody else could take it
			j.kernel.wake(forMutex, m)
		}
		j.settle(api.Reply{Ok: true})
	case api.ErrOwner:
		j.throw(forbidden("unlock", "mutex", j.goal.Args[0]))
	default:
		j.noMutex()
	}
}

// destroyMutex lets a mutex go.
func (j *Job) destroyMutex() {
	m, ok := j.target()
	if !ok {
		return
	}
	switch j.kernel.locks.Drop(m) {
	case api.OK:
		j.kernel.wake(forMutex, m)
		j.settle(api.Reply{Ok: true})
	case api.ErrOwner:
		j.throw(forbidden("destroy", "mutex", j.goal.Args[0]))
	default:
		j.noMutex()
	}
}
