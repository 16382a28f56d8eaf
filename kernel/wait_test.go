package kernel_test

import (
	"strconv"
	"testing"

	"pythia/api"
	"pythia/kernel"
)

// withQueues is a kernel with so many threads, and queues of these sizes.
func withQueues(t *testing.T, threads int, sizes ...int) *kernel.Kernel {
	t.Helper()
	k := roomyKernel(t, threads)
	for i, n := range sizes {
		settles(t, k, 1, `message_queue_create(Q, `+strconv.Itoa(n)+`)`, `message_queue_create(`+strconv.Itoa(i+1)+`,`+strconv.Itoa(n)+`)`)
	}
	return k
}

// withMutexes is a kernel with so many threads and mutexes.
func withMutexes(t *testing.T, threads, mutexes int) *kernel.Kernel {
	t.Helper()
	k := roomyKernel(t, threads)
	for i := range mutexes {
		settles(t, k, 1, `mutex_create(M)`, `mutex_create(`+strconv.Itoa(i+1)+`)`)
	}
	return k
}

// goesOn fails, if a job that has waited isn't over behind its next step, replied so, and noted itself.
func goesOn(t *testing.T, k *kernel.Kernel, thread int, j *kernel.Job, reply string) {
	t.Helper()
	settled(t, k, thread, j, k.Asks(thread), reply)
}

// P20.3: who waits for a message is woken by each one that comes or goes, and waits on, if none fits.
func TestWaitForMessage(t *testing.T) {
	k := withQueues(t, 4, 64, 64)
	one := waits(t, k, 1, `thread_get_message(1, a(X))`)
	two := waits(t, k, 2, `thread_get_message(1, b(X))`)
	three := waits(t, k, 3, `thread_get_message(2, a(X))`)
	states(t, k, 2, 2, 2, 1)
	settles(t, k, 4, `thread_peek_message(1, X)`, `no`)
	states(t, k, 2, 2, 2, 1)
	settles(t, k, 4, `thread_send_message(1, c)`, `yes`)
	states(t, k, 1, 1, 2, 1)
	stays(t, k, 1, one)
	stays(t, k, 2, two)
	settles(t, k, 4, `thread_send_message(1, b(7))`, `yes`)
	states(t, k, 1, 1, 2, 1)
	stays(t, k, 1, one)
	goesOn(t, k, 2, two, `thread_get_message(1,b(7))`)
	states(t, k, 1, 1, 2, 1) // a message has gone
	stays(t, k, 1, one)
	settles(t, k, 2, `thread_peek_message(1, X)`, `thread_peek_message(1,c)`)
	states(t, k, 2, 1, 2, 1)
	settles(t, k, 2, `thread_get_message(1, X)`, `thread_get_message(1,c)`)
	states(t, k, 1, 1, 2, 1)
	settles(t, k, 2, `thread_send_message(1, a(8))`, `yes`)
	goesOn(t, k, 1, one, `thread_get_message(1,a(8))`)
	settles(t, k, 1, `thread_send_message(2, a(9))`, `yes`)
	goesOn(t, k, 3, three, `thread_get_message(2,a(9))`)
	states(t, k, 1, 1, 1, 1)
}

// P20.3: of two who wait for one message one has it, the other one waits on.
func TestOneMessage(t *testing.T) {
	k := withQueues(t, 3, 1)
	one := waits(t, k, 1, `thread_get_message(1, X)`)
	two := waits(t, k, 2, `thread_get_message(1, m)`)
	settles(t, k, 3, `thread_send_message(1, m)`, `yes`)
	states(t, k, 1, 1, 1)
	goesOn(t, k, 2, two, `thread_get_message(1,m)`)
	stays(t, k, 1, one)
	settles(t, k, 3, `thread_send_message(1, n)`, `yes`)
	goesOn(t, k, 1, one, `thread_get_message(1,n)`)
}

// P20.3: who waits for room in a queue is woken when a message goes; of two one sends.
func TestWaitForRoom(t *testing.T) {
	k := withQueues(t, 4, 1, 2)
	settles(t, k, 1, `thread_send_message(1, m)`, `yes`)
	settles(t, k, 1, `thread_send_message(2, m)`, `yes`)
	one := waits(t, k, 1, `thread_send_message(1, one)`)
	two := waits(t, k, 2, `thread_send_message(1, two)`)
	three := waits(t, k, 3, `thread_get_message(1, three)`)
	settles(t, k, 4, `thread_get_message(2, X)`, `thread_get_message(2,m)`)
	states(t, k, 2, 2, 2, 1)
	settles(t, k, 4, `thread_get_message(1, X)`, `thread_get_message(1,m)`)
	states(t, k, 1, 1, 1, 1)
	stays(t, k, 3, three)
	goesOn(t, k, 2, two, `yes`)
	stays(t, k, 1, one)
	settles(t, k, 4, `thread_get_message(1, X)`, `thread_get_message(1,two)`)
	goesOn(t, k, 1, one, `yes`)
	states(t, k, 1, 1, 1, 1)
	stays(t, k, 3, three)
}

// P20.3: who waits for a queue is woken when it is destroyed, and finds none.
func TestWaitForDestroyed(t *testing.T) {
	k := withQueues(t, 4, 1, 1)
	settles(t, k, 1, `thread_send_message(1, m)`, `yes`)
	one := waits(t, k, 1, `thread_send_message(1, f(X))`)
	two := waits(t, k, 2, `thread_get_message(1, x)`)
	three := waits(t, k, 3, `thread_get_message(2, x)`)
	settles(t, k, 4, `message_queue_destroy(1)`, `yes`)
	states(t, k, 1, 1, 2, 1)
	settles(t, k, 4, `message_queue_create(Q)`, `message_queue_create(3)`)
	goesOn(t, k, 1, one, noneBall(`message_queue`, `1`))
	goesOn(t, k, 2, two, noneBall(`message_queue`, `1`))
	settles(t, k, 4, `message_queue_destroy(2)`, `yes`)
	goesOn(t, k, 3, three, noneBall(`message_queue`, `2`))
}

// P20.3: who waits for a mutex is woken when it is given back as often as it was taken; of two one has it.
func TestWaitForMutex(t *testing.T) {
	k := withMutexes(t, 4, 2)
	settles(t, k, 1, `mutex_lock(1)`, `yes`)
	settles(t, k, 1, `mutex_lock(1)`, `yes`)
	settles(t, k, 1, `mutex_lock(2)`, `yes`)
	two := waits(t, k, 2, `mutex_lock(1)`)
	three := waits(t, k, 3, `mutex_lock(1)`)
	four := waits(t, k, 4, `mutex_lock(2)`)
	settles(t, k, 1, `mutex_unlock(1)`, `yes`)
	if k.State(2) == 1 { // in vain
		stays(t, k, 2, two)
		stays(t, k, 3, three)
	}
	settles(t, k, 1, `mutex_unlock(1)`, `yes`)
	states(t, k, 1, 1, 1, 2)
	goesOn(t, k, 3, three, `yes`)
	stays(t, k, 2, two)
	settles(t, k, 1, `mutex_unlock(1)`, permBall(`unlock`, `mutex`, `1`))
	states(t, k, 1, 2, 1, 2)
	settles(t, k, 3, `mutex_unlock(1)`, `yes`)
	goesOn(t, k, 2, two, `yes`)
	settles(t, k, 1, `mutex_unlock(2)`, `yes`)
	goesOn(t, k, 4, four, `yes`)
}

// P20.3: who waits for mutexes is woken when their owner is over, however often it had them.
func TestWaitForOwner(t *testing.T) {
	k := withMutexes(t, 5, 3)
	for _, m := range []string{`1`, `1`, `2`, `2`, `2`} {
		settles(t, k, 1, `mutex_lock(`+m+`)`, `yes`)
	}
	settles(t, k, 5, `mutex_lock(3)`, `yes`)
	two := waits(t, k, 2, `mutex_lock(1)`)
	three := waits(t, k, 3, `mutex_lock(2)`)
	four := waits(t, k, 4, `mutex_lock(3)`)
	ends(t, k, 1, at("done"))
	states(t, k, 3, 1, 1, 2, 1)
	goesOn(t, k, 2, two, `yes`)
	goesOn(t, k, 3, three, `yes`)
	settles(t, k, 5, `mutex_destroy(1)`, permBall(`destroy`, `mutex`, `1`))
	settles(t, k, 2, `mutex_unlock(1)`, `yes`)
	settles(t, k, 2, `mutex_unlock(1)`, permBall(`unlock`, `mutex`, `1`))
	ends(t, k, 5, at("done"))
	goesOn(t, k, 4, four, `yes`)
}

// P20.3: who was woken for a mutex, and finds it destroyed, is told so; nobody sleeps on.
func TestWaitForDestroyedMutex(t *testing.T) {
	k := withMutexes(t, 3, 1)
	settles(t, k, 1, `mutex_lock(1)`, `yes`)
	two := waits(t, k, 2, `mutex_lock(1)`)
	settles(t, k, 1, `mutex_destroy(1)`, permBall(`destroy`, `mutex`, `1`))
	settles(t, k, 1, `mutex_unlock(1)`, `yes`)
	settles(t, k, 1, `mutex_destroy(1)`, `yes`)
	states(t, k, 1, 1, 1)
	goesOn(t, k, 2, two, noneBall(`mutex`, `1`))
}

// P20.3: who waits to join is woken when that thread is over; of two one has its status, the other one finds it gone.
func TestWaitToJoin(t *testing.T) {
	k := roomyKernel(t, 5)
	one := waits(t, k, 1, `thread_join(3, S)`)
	two := waits(t, k, 2, `thread_join(3, S)`)
	four := waits(t, k, 4, `thread_join(5, S)`)
	states(t, k, 2, 2, 1, 2, 1)
	ends(t, k, 3, goalOf(t, `f(Y, X)`))
	states(t, k, 1, 1, 3, 2, 1)
	goesOn(t, k, 2, two, `thread_join(3,f(_1,_2))`)
	states(t, k, 1, 1, 0, 2, 1)
	goesOn(t, k, 1, one, noneBall(`thread`, `3`))
	states(t, k, 1, 1, 0, 2, 1)
	ends(t, k, 5, at("x"))
	goesOn(t, k, 4, four, `thread_join(5,x)`)
}

// P20.3: threads that wait for one another wait on; one that waits for nobody who could end.
func TestRing(t *testing.T) {
	k := roomyKernel(t, 3)
	one := waits(t, k, 1, `thread_join(2, S)`)
	two := waits(t, k, 2, `thread_join(1, S)`)
	if e := k.End(1, at("x")); e != api.ErrBlocked {
		t.Errorf("End of a blocked thread = %d", e)
	}
	settles(t, k, 3, `thread_self(X)`, `thread_self(3)`)
	states(t, k, 2, 2, 1)
	if one.Step() || two.Step() {
		t.Error("one of a ring has gone on")
	}
}

// P20.3: nobody who waits for one kind of thing is woken by another one of the same number.
func TestKindsOfWaiting(t *testing.T) {
	k := withQueues(t, 6, 1, 1, 1)
	for i := 1; i <= 3; i++ {
		settles(t, k, 1, `mutex_create(M)`, `mutex_create(`+strconv.Itoa(i)+`)`)
		settles(t, k, 1, `mutex_lock(`+strconv.Itoa(i)+`)`, `yes`)
	}
	waits(t, k, 4, `thread_get_message(2, X)`)
	waits(t, k, 5, `mutex_lock(2)`)
	waits(t, k, 6, `thread_join(2, S)`)
	ends(t, k, 3, at("x"))
	settles(t, k, 1, `thread_join(3, S)`, `thread_join(3,x)`)
	for _, n := range []string{`1`, `3`} {
		settles(t, k, 1, `thread_send_message(`+n+`, m)`, `yes`)
		settles(t, k, 1, `message_queue_destroy(`+n+`)`, `yes`)
		settles(t, k, 1, `mutex_unlock(`+n+`)`, `yes`)
		settles(t, k, 1, `mutex_destroy(`+n+`)`, `yes`)
	}
	states(t, k, 1, 1, 0, 2, 2, 2)
	settles(t, k, 1, `thread_send_message(2, m)`, `yes`)
	states(t, k, 1, 1, 0, 1, 2, 2)
	settles(t, k, 1, `mutex_unlock(2)`, `yes`)
	states(t, k, 1, 1, 0, 1, 1, 2)
	ends(t, k, 2, at("x"))
	states(t, k, 1, 3, 0, 1, 1, 1)
}

// P20.3: a job of the DB never waits for anybody: it ends by steps of its own, wherever others have stopped.
func TestNobodyInTheWay(t *testing.T) {
	for n := range 30 {
		k := roomyKernel(t, 4)
		does(t, k, 1, `assertz(p(1))`, `yes`, `'$add'(:-(p(1),true),1)`)
		for i, g := range goalsOf(t, `p(X)`, `assertz(p(2))`, `retract(p(X))`) {
			j := begun(t, k, i+2, g)
			for range n {
				j.Step()
			}
		}
		for _, g := range goalsOf(t, `assertz(p(3))`, `clause(p(3), B)`, `retract(p(3))`, `p(X)`) {
			j := begun(t, k, 1, g)
			if steps := run(t, j); steps > 40 || g.Name != "p" && !j.Reply().Ok {
				t.Errorf("where others have stopped behind %d steps, %s took %d, and was replied %s", n, text(g), steps, replyText(j.Reply()))
			}
		}
	}
}
