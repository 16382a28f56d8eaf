package world_test

import (
	"testing"

	"pythia/api"
	"pythia/world"
)

// The example that README.md tells.
func TestReadme(t *testing.T) {
	conf := api.Conf{Limits: api.Limits{Heap: 10000, Stack: 1000, Trail: 10000}, Threads: 8, Cells: 10000, Limbo: 16}
	w, err := world.New(conf, `
        p(1). p(2).
        main :- message_queue_create(Q), thread_create(get(Q), _), p(X), thread_send_message(Q, X), fail.
        main.
        get(Q) :- thread_get_message(Q, X), out(got(X)), get(Q).
    `, []string{`main.`, `p(X), out(X), fail.`})
	if err != nil {
		t.Fatal(err)
	}
	if !w.Pick(2) || w.Pick(3) {
		t.Error("Pick")
	}
	if good, bad := w.Play(1, 1, 9, 2); good != 3 || bad != 1 {
		t.Errorf("Play = %d, %d", good, bad)
	}
	if !w.Rest(1000) || w.Threads() != 3 || w.State(3) != 2 || termText(w.Asks(3)) != "thread_get_message(1,_1)" {
		t.Errorf("%s", view(w))
	}
	for n, want := range []string{"yes main\n", "1\n2\nno\n", "got(1)\ngot(2)\n"} {
		tells(t, w, n+1, want)
	}
}
