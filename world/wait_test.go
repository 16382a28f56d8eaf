package world_test

import (
	"math/rand"
	"strings"
	"testing"
)

// waiting is a goal that waits behind another thread's, what a third one does so that it goes on, and what it tells then.
type waiting struct {
	first string
	noted int // how far the first one is taken at first: how many entries the log has then; 0, if as far as it goes
	waits string
	wakes string
	want  string
}

func waitings() []waiting {
	return []waiting{
		{`message_queue_create(Q)`, 0, `thread_get_message(1, X), out(X)`, `thread_send_message(1, m)`, "m\n"},
		{`message_queue_create(Q), thread_send_message(1, a)`, 0, `thread_get_message(1, f(X)), out(X)`, `thread_send_message(1, b), thread_send_message(1, f(c))`, "c\n"},
		{`message_queue_create(Q)`, 0, `catch(thread_get_message(1, X), error(E, _), out(E))`, `message_queue_destroy(1)`, "existence_error(message_queue,1)\n"},
		{`message_queue_create(Q, 1), thread_send_message(1, a)`, 0, `thread_send_message(1, b), out(sent)`, `thread_get_message(1, X)`, "sent\n"},
		{`message_queue_create(Q, 1), thread_send_message(1, a)`, 0, `catch(thread_send_message(1, b), error(E, _), out(E))`, `message_queue_destroy(1)`, "existence_error(message_queue,1)\n"},
		{`mutex_create(M), mutex_lock(1), mutex_lock(1)`, 3, `mutex_lock(1), out(mine)`, `true`, "mine\n"}, // who has it is over
		{`message_queue_create(Q), mutex_create(M), mutex_lock(1), mutex_lock(1), thread_get_message(1, go), mutex_unlock(1), mutex_unlock(1)`, 0, `mutex_lock(1), out(mine)`, `thread_send_message(1, go)`, "mine\n"},
		{`message_queue_create(Q), mutex_create(M), mutex_lock(1), thread_get_message(1, go), mutex_unlock(1), mutex_destroy(1)`, 0, `catch(mutex_lock(1), error(E, _), out(E))`, `thread_send_message(1, go)`, "existence_error(mutex,1)\n"},
		{`message_queue_create(Q)`, 0, `thread_join(4, S), out(S)`, `true`, "false\n"},
		{`message_queue_create(Q), thread_get_message(1, go), fail`, 0, `thread_join(1, S), out(S)`, `thread_send_message(1, go)`, "false\n"},
	}
}

// P22.3, P6: who waits is blocked as long as what it waits for isn't there, and ready when it is.
func TestWaits(t *testing.T) {
	for _, c := range waitings() {
		x := newWatch(t, conf(), `p(1).`, c.first, c.waits, c.wakes, `p(2)`)
		for x.k.State(1) == 1 && (c.noted == 0 || x.w.Len() < c.noted) {
			x.pick(1)
		}
		for x.k.State(2) == 1 {
			x.pick(2)
		}
		if x.w.State(2) != 2 || x.w.Asks(2).Kind == 0 || x.w.Told(2) != "" {
			t.Fatalf("%s: state %d, %q", c.waits, x.w.State(2), x.w.Told(2))
		}
		for range 3 {
			x.pick(2)
		}
		if got := x.rest(2000); !got || !strings.HasPrefix(x.w.Told(2), c.want) || x.w.State(2) != 3 {
			t.Errorf("%s: state %d, %q, not %q", c.waits, x.w.State(2), x.w.Told(2), c.want)
		}
		x.close()
	}
}

// P22.3, P6: the same in a great many orders: whoever waits for something that comes is over in the end.
func TestWaitsInOrders(t *testing.T) {
	r := rand.New(rand.NewSource(223))
	for range 40 {
		for _, c := range waitings() {
			if strings.Contains(c.first+c.wakes, "destroy") {
				continue // who comes too late tries for ever
			}
			x := newWatch(t, conf(), `try(G) :- catch(G, error(existence_error(_, _), _), try(G)).`, c.first, `try((`+c.waits+`))`, `try((`+c.wakes+`))`, `fail`)
			for range 60 {
				x.pick(1 + r.Intn(4))
			}
			if !x.rest(2000) {
				t.Fatalf("%s: no rest", c.waits)
			}
			x.close()
			for n := range x.w.Threads() {
				if x.w.State(n+1) == 2 {
					t.Fatalf("%s: thread %d waits for ever", c.waits, n+1)
				}
			}
		}
	}
}

// P22.3, Example 10 of the whole: nobody is ready, and what those wait for who are blocked isn't there, nor will it come.
func TestForEver(t *testing.T) {
	for _, c := range []struct {
		goals []string
		waits string // the numbers of those that wait in the end
	}{
		{[]string{`message_queue_create(Q), thread_get_message(Q, X)`}, "1"},
		{[]string{`message_queue_create(Q, 1), thread_send_message(Q, a), thread_send_message(Q, b)`}, "1"},
		{[]string{`message_queue_create(Q), thread_get_message(Q, X)`, `thread_join(1, S)`, `thread_join(2, S)`}, "123"},
		{[]string{`thread_join(2, S)`, `thread_join(3, S)`, `thread_join(1, S)`, `true`}, "123"},
		{[]string{`mutex_create(M), mutex_create(N), message_queue_create(Q), mutex_lock(1), thread_get_message(1, x), mutex_lock(2)`, `p(1), p(2), p(3), p(4), p(1), p(2), mutex_lock(2), thread_send_message(1, x), mutex_lock(1)`}, "12"},
		{[]string{`message_queue_create(Q), thread_send_message(1, f(1)), thread_send_message(1, f(2)), thread_get_message(1, f(3))`}, "1"},
		{[]string{`true`, `fail`, `nobody`}, ""},
		{[]string{}, ""},
	} {
		x := newWatch(t, conf(), `p(1). p(2). p(3). p(4).`, c.goals...)
		if !x.rest(20000) {
			t.Fatalf("%q: somebody is ready", c.goals)
		}
		waits := ""
		for n := range x.w.Threads() {
			if x.w.State(n+1) == 2 {
				waits += string(rune('1' + n))
			}
		}
		if waits != c.waits {
			t.Errorf("%q: %q wait, not %q\n%s", c.goals, waits, c.waits, view(x.w))
		}
		for n := range x.w.Threads() {
			inVain(t, x.w, n+1)
		}
	}
}
