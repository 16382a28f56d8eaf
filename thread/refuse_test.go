package thread

import (
	"testing"

	"pythia/api"
	"pythia/kernel"
)

// asking is a thread whose machine waits for a reply to goal u, that the kernel hasn't yet: this package alone can tell it one that no kernel has.
func asking(t *testing.T) *Thread {
	t.Helper()
	k, _ := kernel.New(api.Conf{Threads: 1, Cells: 100, Limbo: 1}, nil)
	u := compound("u", api.Term{Kind: api.Var, Int: 1})
	k.Spawn(compound(";", u, compound("=", api.Term{Kind: api.Var, Int: 1}, atom("other"))))
	x, err := New(k, 1, nil, api.Limits{Heap: 1000, Stack: 10, Trail: 100})
	if err != api.OK {
		t.Fatalf("New = %d", err)
	}
	if x.event = x.machine.Run(100); x.event.Kind != api.EvAsk {
		t.Fatalf("the machine tells %v", x.event)
	}
	return x
}

// P21.1: a reply that the machine refuses counts as not Ok; another one is told as it is.
func TestRefusedReplies(t *testing.T) {
	number := api.Term{Kind: api.Num, Int: 3}
	right := compound("u", number)
	deep := atom("a")
	for range 100 {
		deep = compound("f", deep)
	}
	for _, c := range []struct {
		reply   api.Reply
		refused bool
	}{
		{api.Reply{}, true}, // which is not Ok itself
		{api.Reply{Alts: []api.Term{right}}, true},
		{api.Reply{Ok: true, Alts: []api.Term{number}}, true},
		{api.Reply{Ok: true, Alts: []api.Term{right, number}}, true},
		{api.Reply{Ok: true, Alts: []api.Term{{}}}, true},
		{api.Reply{Ok: true, Alts: []api.Term{{Kind: api.Var, Int: 1}}}, true},
		{api.Reply{Ok: true, Alts: []api.Term{compound(":-", right, number)}}, true},
		{api.Reply{Ok: true, Alts: []api.Term{deep}}, true},
		{api.Reply{Ball: deep}, true},
		{api.Reply{Ok: true, Ball: compound("f"), Alts: []api.Term{right}}, true},
		{api.Reply{Ok: true, Alts: []api.Term{right}}, false},
		{api.Reply{Ok: true}, false},
		{api.Reply{Ball: atom("b")}, false},
	} {
		x := asking(t)
		x.tell(c.reply)
		if len(x.talk) != 1 || x.talk[0].Pick != 0 || x.talk[0].Thread != 1 || x.talk[0].Ask.Name != "u" || x.event.Kind != api.EvNone || x.job != nil {
			t.Fatalf("%v: told %v", c.reply, x.talk)
		}
		for range 100 {
			x.Step()
		}
		isOther := x.Last().Kind == api.EvAnswer && x.Last().Term.Args[1].Args[0].Name == "other"
		if !x.Over() || isOther != c.refused {
			t.Errorf("%v: %v", c.reply, x.Last())
		}
	}
}
