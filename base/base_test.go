package base_test

import (
	"strconv"
	"testing"

	"pythia/api"
	"pythia/base"
)

var (
	p0 = pred("p", 0)
	p1 = pred("p", 1)
	q1 = pred("q", 1)
	pa = fact(co("p", at("a")))
	pb = fact(co("p", at("b")))
	pc = fact(co("p", at("c")))
	qa = fact(co("q", at("a")))
)

// The chapter's example.
func TestExample(t *testing.T) {
	d := roomyDB(t)
	ends(t, d.Assert(1, pa, false), base.Answer{Ok: true, Id: 1, Stamp: 1})
	ends(t, d.Assert(1, pb, true), base.Answer{Ok: true, Id: 2, Stamp: 2})
	ends(t, d.Erase(1, p1, 1), base.Answer{Ok: true, Stamp: 3})
	ends(t, d.All(1, p1), base.Answer{Ok: true, Stamp: 3, Found: []base.Found{{Id: 2, Clause: pb}}})
}

// P16.1: New is answered as layer 5's is.
func TestNew(t *testing.T) {
	for _, room := range []int{-1, 0, 59} {
		if d, e := base.New(room, 8); d != nil || e != api.ErrFull {
			t.Errorf("New(%d, 8) = %v, %d", room, d, e)
		}
	}
	d := made(t, 60, 8)
	known(t, d)
	ends(t, d.Assert(1, pa, false), base.Answer{Err: api.ErrFull})
	ends(t, made(t, 62, 8).Assert(1, pa, false), base.Answer{Ok: true, Id: 1, Stamp: 1})
	// The first change needs 2 cells, the next one 3 more.
	d = made(t, 64, 8)
	adds(t, d, false, pa)
	ends(t, d.Assert(1, pb, false), base.Answer{Err: api.ErrFull})
	d = made(t, 1<<30, 1<<30)
	adds(t, d, false, pa, pb)
	ends(t, made(t, 1000, 0).Assert(1, pa, false), base.Answer{Err: api.ErrLimbo})
	ends(t, made(t, 1000, -5).Assert(1, pa, false), base.Answer{Err: api.ErrLimbo})
}

// P16.1: clauses ahead and behind, each under its predicate, renamed.
func TestAssert(t *testing.T) {
	d := roomyDB(t)
	adds(t, d, false, pa, pb)
	adds(t, d, true, pc, fact(at("p")))
	adds(t, d, false, cl(co("q", va(9), va(4), va(9)), co("r", va(4), va(7))), qa, cl(at("p"), va(6)))
	lists(t, d, p1, base.Found{Id: 3, Clause: pc}, base.Found{Id: 1, Clause: pa}, base.Found{Id: 2, Clause: pb})
	lists(t, d, p0, base.Found{Id: 4, Clause: fact(at("p"))}, base.Found{Id: 7, Clause: cl(at("p"), va(1))})
	lists(t, d, pred("q", 3), base.Found{Id: 5, Clause: cl(co("q", va(1), va(2), va(1)), co("r", va(2), va(3)))})
	lists(t, d, q1, base.Found{Id: 6, Clause: qa})
	known(t, d, p1, p0, pred("q", 3), q1)
}

// P16.1: what is no right clause is neither numbered nor does it make a predicate.
func TestErrClause(t *testing.T) {
	d := roomyDB(t)
	cs := map[string]api.Clause{
		"a head that is a number":   fact(nu(1)),
		"a head that is a variable": fact(va(1)),
		"a body that is a number":   cl(at("p"), nu(1)),
		"no head":                   {Body: at("b")},
		"no body":                   {Head: at("b")},
		"too deep with its neck":    fact(tower(at("a"), 99)),
		"too great with its neck":   fact(sized(1999)),
		"too great together":        cl(sized(1000), sized(1000)),
	}
	for name, u := range wrong() {
		cs[name+" as a head"] = fact(u)
		cs[name+" as a body"] = cl(at("p"), u)
	}
	for name, u := range endless() {
		cs[name] = fact(u)
	}
	for name, c := range cs {
		for _, thread := range []int{1, 0, 9} {
			o := d.Assert(thread, c, false)
			if o.Id() != 0 || o.Over() || o.Done() || !sameAnswer(o.Answer(), base.Answer{}) {
				t.Errorf("%s: Id %d, Over %v, Done %v", name, o.Id(), o.Over(), o.Done())
			}
			if !o.Step() || !sameAnswer(o.Answer(), base.Answer{Err: api.ErrClause}) || o.Done() || o.Id() != 0 {
				t.Errorf("%s: %v, Done %v", name, o.Answer(), o.Done())
			}
		}
	}
	known(t, d)
	adds(t, d, false, fact(tower(at("a"), 98)), fact(sized(1998)), cl(sized(1000), sized(999)), cl(at("p"), va(1)))
	if l := d.List(p0); len(l) != 1 || l[0].Id != 4 {
		t.Errorf("%v", l)
	}
}

// P16.1: as many predicates as may be, and one more.
func TestErrMany(t *testing.T) {
	d := roomyDB(t)
	for i := range api.MaxPreds {
		// Begun, and never stepped: the predicate is there all the same.
		if o := d.Assert(1+i%8, fact(at("p"+strconv.Itoa(i))), i%2 == 0); o.Id() != int64(i+1) {
			t.Fatalf("number %d is %d", i+1, o.Id())
		}
	}
	if n := len(d.Preds()); n != 60 {
		t.Fatalf("%d predicates", n)
	}
	for range 3 {
		o := d.Assert(0, fact(at("q")), false)
		if o.Id() != 0 || o.Over() || o.Done() {
			t.Fatalf("Id %d, Over %v, Done %v", o.Id(), o.Over(), o.Done())
		}
		if !o.Step() || o.Done() || !sameAnswer(o.Answer(), base.Answer{Err: api.ErrMany}) || o.Id() != 0 {
			t.Fatalf("one more: %v", o.Answer())
		}
	}
	if d.Is(pred("q", 0)) || d.Is(pred("p0", 1)) || len(d.Preds()) != 60 || len(d.List(pred("q", 0))) != 0 {
		t.Errorf("the predicate is there")
	}
	// Each Assert that was begun with a right clause has used a number up.
	ends(t, d.Assert(1, fact(at("p59")), false), base.Answer{Ok: true, Id: 64, Stamp: 1})
	ends(t, d.Assert(1, fact(nu(1)), false), base.Answer{Err: api.ErrClause})
	ends(t, d.Assert(1, fact(at("p0")), false), base.Answer{Ok: true, Id: 65, Stamp: 1})
}

// P16.1: a predicate that is full.
func TestFull(t *testing.T) {
	d := roomyDB(t)
	for i := range api.MaxClause {
		adds(t, d, i%2 == 0, pa)
	}
	o := d.Assert(1, pb, true)
	if o.Id() != 201 {
		t.Fatalf("Id %d", o.Id())
	}
	ends(t, o, base.Answer{Err: api.ErrMany})
	if o.Id() != 201 || len(d.List(p1)) != 200 {
		t.Errorf("Id %d, %d clauses", o.Id(), len(d.List(p1)))
	}
	erases(t, d, p1, 7)
	ends(t, d.Assert(1, pb, false), base.Answer{Ok: true, Id: 202, Stamp: 202})
}

// P16.1: numbers are there from the beginning on, and never again.
func TestId(t *testing.T) {
	d := roomyDB(t)
	one, two := d.Assert(1, pa, false), d.Assert(2, qa, false)
	if one.Id() != 1 || two.Id() != 2 {
		t.Fatalf("numbers %d, %d", one.Id(), two.Id())
	}
	if o := d.Assert(1, fact(nu(1)), false); o.Id() != 0 {
		t.Fatalf("of a wrong one %d", o.Id())
	}
	known(t, d, p1, q1)
	lists(t, d, p1)
	ends(t, two, base.Answer{Ok: true, Id: 2, Stamp: 1})
	ends(t, d.Assert(0, pb, false), base.Answer{Err: api.ErrArg})
	ends(t, d.Assert(9, pb, false), base.Answer{Err: api.ErrArg})
	ends(t, d.Assert(3, pb, false), base.Answer{Ok: true, Id: 5, Stamp: 1})
	ends(t, one, base.Answer{Ok: true, Id: 1, Stamp: 2})
	erases(t, d, p1, 5, 1)
	ends(t, d.Assert(1, pb, false), base.Answer{Ok: true, Id: 6, Stamp: 5})
	for _, o := range []*base.Op{d.Erase(1, p1, 6), d.All(1, p1), d.Erase(1, p0, 6), d.All(1, p0)} {
		if o.Id() != 0 {
			t.Errorf("Id %d of no Assert", o.Id())
		}
		run(o)
		if o.Id() != 0 {
			t.Errorf("Id %d of no Assert that is over", o.Id())
		}
	}
	if one.Id() != 1 {
		t.Errorf("the number has become %d", one.Id())
	}
}

// P16.1: what Erase finds.
func TestErase(t *testing.T) {
	d := roomyDB(t)
	adds(t, d, false, pa, pb, qa, pa)
	for _, id := range []int64{0, -1, 3, 5, 1 << 62} {
		ends(t, d.Erase(1, p1, id), base.Answer{Stamp: 3})
	}
	ends(t, d.Erase(1, q1, 1), base.Answer{Stamp: 1})
	ends(t, d.Erase(1, p1, 2), base.Answer{Ok: true, Stamp: 4})
	ends(t, d.Erase(1, p1, 2), base.Answer{Stamp: 4})
	lists(t, d, p1, base.Found{Id: 1, Clause: pa}, base.Found{Id: 4, Clause: pa})
	lists(t, d, q1, base.Found{Id: 3, Clause: qa})
	erases(t, d, p1, 1, 4)
	lists(t, d, p1)
	known(t, d, p1, q1)
	ends(t, d.All(1, p1), base.Answer{Ok: true, Stamp: 6})
	ends(t, d.Erase(0, p1, 1), base.Answer{Err: api.ErrArg})
	ends(t, d.Erase(9, p1, 1), base.Answer{Err: api.ErrArg})
}

// P16.1: a predicate without a chain has nothing, whoever asks; it is over behind the first step.
func TestNoChain(t *testing.T) {
	d := roomyDB(t)
	for _, thread := range []int{1, 0, 9} {
		for want, o := range map[bool]*base.Op{false: d.Erase(thread, p1, 1), true: d.All(thread, p1)} {
			if o.Over() || o.Done() || !sameAnswer(o.Answer(), base.Answer{}) {
				t.Errorf("begun: Over %v, Done %v, %v", o.Over(), o.Done(), o.Answer())
			}
			if !o.Step() || !o.Over() || !o.Done() || !sameAnswer(o.Answer(), base.Answer{Ok: want}) {
				t.Errorf("behind a step: Over %v, Done %v, %v", o.Over(), o.Done(), o.Answer())
			}
		}
	}
	known(t, d)
	lists(t, d, p1)
	if d.Is(p1) {
		t.Errorf("there is a predicate")
	}
}

// P16.1: whether there is a chain is seen at the first step.
func TestChainComes(t *testing.T) {
	d := roomyDB(t)
	erase, all, wrongThread := d.Erase(1, p1, 1), d.All(1, p1), d.All(0, p1)
	add := d.Assert(2, pa, false)
	known(t, d, p1)
	empty := d.All(1, p1)
	ends(t, empty, base.Answer{Ok: true})
	ends(t, wrongThread, base.Answer{Err: api.ErrArg})
	ends(t, add, base.Answer{Ok: true, Id: 1, Stamp: 1})
	ends(t, all, base.Answer{Ok: true, Stamp: 1, Found: []base.Found{{Id: 1, Clause: pa}}})
	ends(t, erase, base.Answer{Ok: true, Stamp: 2})
}

// P16.1: a thread has one operation under way at a time.
func TestInside(t *testing.T) {
	d := roomyDB(t)
	adds(t, d, false, pa, qa)
	o := d.All(1, p1)
	o.Step()
	for _, other := range []*base.Op{d.Assert(1, pb, false), d.Erase(1, p1, 1), d.All(1, q1)} {
		if !other.Step() || other.Done() || !sameAnswer(other.Answer(), base.Answer{Err: api.ErrInside}) {
			t.Errorf("within another one: %v", other.Answer())
		}
	}
	ends(t, d.All(1, p0), base.Answer{Ok: true})
	ends(t, d.Erase(2, p1, 1), base.Answer{Ok: true, Stamp: 2})
	run(o)
	ends(t, d.Assert(1, pb, false), base.Answer{Ok: true, Id: 4, Stamp: 3})
}

// P16.1: nothing happens behind an operation's end; nothing is answered ahead of it.
func TestOver(t *testing.T) {
	d := roomyDB(t)
	o := d.Assert(1, pa, false)
	for steps := 1; ; steps++ {
		if !sameAnswer(o.Answer(), base.Answer{}) || o.Over() {
			t.Fatalf("behind %d steps: %v", steps, o.Answer())
		}
		if o.Step() {
			break
		}
	}
	for range 5 {
		if !o.Step() || !o.Over() || !o.Done() || !sameAnswer(o.Answer(), base.Answer{Ok: true, Id: 1, Stamp: 1}) {
			t.Fatalf("behind the end: %v", o.Answer())
		}
	}
	lists(t, d, p1, base.Found{Id: 1, Clause: pa})
	e := d.Erase(1, p1, 1)
	run(e)
	for range 5 {
		e.Step()
	}
	ends(t, e, base.Answer{Ok: true, Stamp: 2})
	f := d.Erase(1, p0, 1)
	run(f)
	adds(t, d, false, fact(at("p")))
	ends(t, f, base.Answer{})
}

// P16.3: an All tells what was there when it took effect, whatever comes and goes then; erased clauses too.
func TestAllHolds(t *testing.T) {
	d := roomyDB(t)
	adds(t, d, false, pa, pb, pc)
	want := base.Answer{Ok: true, Stamp: 3, Found: []base.Found{{Id: 1, Clause: pa}, {Id: 2, Clause: pb}, {Id: 3, Clause: pc}}}
	o, late := d.All(2, p1), d.All(3, p1)
	for !o.Done() {
		o.Step()
	}
	late.Step()
	erases(t, d, p1, 1, 3)
	adds(t, d, true, pc)
	erases(t, d, p1, 2, 4)
	adds(t, d, true, pa)
	ends(t, o, want)
	ends(t, o, want)
	ends(t, late, base.Answer{Ok: true, Stamp: 9, Found: []base.Found{{Id: 5, Clause: pa}}})
	erases(t, d, p1, 5)
	adds(t, d, false, qa)
	ends(t, late, base.Answer{Ok: true, Stamp: 9, Found: []base.Found{{Id: 5, Clause: pa}}})
	ends(t, o, want)
}
