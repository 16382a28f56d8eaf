package base_test

import (
	"slices"
	"testing"

	"pythia/api"
	"pythia/base"
	"pythia/cells"
	"pythia/chain"
	"pythia/epoch"
)

// What an operation is for.
const (
	front = iota
	behind
	erase
	all
)

// plain is a predicate's clauses as a plain list, on which all is done at once.
type plain struct {
	found []base.Found
	stamp int64
}

// do does an operation at once.
func (p *plain) do(kind int, f base.Found) base.Answer {
	switch kind {
	case front:
		p.found = slices.Insert(p.found, 0, f)
	case behind:
		p.found = append(p.found, f)
	case erase:
		i := slices.IndexFunc(p.found, func(g base.Found) bool { return g.Id == f.Id })
		if i < 0 {
			return base.Answer{Stamp: p.stamp}
		}
		p.found = slices.Delete(p.found, i, i+1)
		p.stamp++
		return base.Answer{Ok: true, Stamp: p.stamp}
	case all:
		return base.Answer{Ok: true, Stamp: p.stamp, Found: slices.Clone(p.found)}
	}
	p.stamp++
	return base.Answer{Ok: true, Id: f.Id, Stamp: p.stamp}
}

// watch steps operations on one DB, and beside each a chain's on a base of its own; all answers are held against plain lists, and the errors and the steps against the chain's.
type watch struct {
	t      *testing.T
	db     *base.DB
	chains *chain.Base
	preds  []api.Pred
	plain  map[api.Pred]*plain
	last   int64
	way    []*watched
	ended  map[api.Errno]int
}

// watched is an operation under way.
type watched struct {
	op    *base.Op
	kind  int
	begin func() *chain.Op
	chain *chain.Op
	pred  api.Pred
	found base.Found
	done  bool
	want  base.Answer
}

func newWatch(t *testing.T, room, bound int) *watch {
	t.Helper()
	a := cells.New(room)
	b, e := chain.New(a, epoch.New(a, api.MaxThread, bound), api.MaxPreds)
	if e != api.OK {
		t.Fatalf("New in %d cells: %d", room, e)
	}
	return &watch{t: t, db: made(t, room, bound), chains: b, plain: map[api.Pred]*plain{}, ended: map[api.Errno]int{}}
}

// assert begins an Assert of a clause that is right.
func (w *watch) assert(thread int, c api.Clause, kind int) *watched {
	w.t.Helper()
	p, _ := base.Of(c.Head)
	w.last++
	if w.plain[p] == nil {
		w.plain[p] = &plain{}
		w.preds = append(w.preds, p)
	}
	x := &watched{kind: kind, pred: p, found: base.Found{Id: w.last, Clause: renamed(c)}}
	x.begin = func() *chain.Op {
		return w.chains.Add(thread, 1+slices.Index(w.preds, p), x.found.Id, kind == front)
	}
	handed := roomyClause(c)
	x.op = w.db.Assert(thread, handed, kind == front)
	if !unspoilt(handed.Head, c.Head) || !unspoilt(handed.Body, c.Body) {
		w.t.Fatalf("Assert has changed %s", text(c.Head))
	}
	spoil(handed.Head, handed.Body)
	if x.op.Id() != w.last {
		w.t.Fatalf("number %d is %d", w.last, x.op.Id())
	}
	w.way = append(w.way, x)
	w.compare()
	return x
}

// erase begins an Erase.
func (w *watch) erase(thread int, p api.Pred, id int64) *watched {
	x := &watched{kind: erase, pred: p, found: base.Found{Id: id}, op: w.db.Erase(thread, p, id)}
	x.begin = func() *chain.Op { return w.chains.Cut(thread, 1+slices.Index(w.preds, p), id) }
	w.way = append(w.way, x)
	return x
}

// all begins an All.
func (w *watch) all(thread int, p api.Pred) *watched {
	x := &watched{kind: all, pred: p, op: w.db.All(thread, p)}
	x.begin = func() *chain.Op { return w.chains.All(thread, 1+slices.Index(w.preds, p)) }
	w.way = append(w.way, x)
	return x
}

// step lets an operation under way do a step.
func (w *watch) step(x *watched) bool {
	w.t.Helper()
	if a := x.op.Answer(); !sameAnswer(a, base.Answer{}) || x.op.Over() {
		w.t.Fatalf("an operation under way answers %v", a)
	}
	if x.begin != nil && w.plain[x.pred] != nil {
		x.chain = x.begin()
	}
	x.begin = nil
	over, done, err := w.beside(x)
	if got := x.op.Step(); got != over || x.op.Over() != over || x.op.Done() != done {
		w.t.Fatalf("Step %v, Over %v, Done %v; the chain's: %v, %v", got, x.op.Over(), x.op.Done(), over, done)
	}
	if done && !x.done {
		x.done = true
		x.want = base.Answer{Ok: x.kind == all}
		if p := w.plain[x.pred]; p != nil {
			x.want = p.do(x.kind, x.found)
		}
	}
	if over {
		w.end(x, err)
	}
	w.compare()
	return over
}

// beside does a step of the chain's operation beside one that is watched.
func (w *watch) beside(x *watched) (over, done bool, err api.Errno) {
	if x.chain == nil {
		return true, true, api.OK
	}
	over = x.chain.Step()
	return over, x.chain.Done(), x.chain.Answer().Err
}

// end holds an operation's answer against what was to be seen of it.
func (w *watch) end(x *watched, err api.Errno) {
	w.t.Helper()
	w.way = slices.DeleteFunc(w.way, func(y *watched) bool { return y == x })
	w.ended[err]++
	if err != api.OK {
		x.want = base.Answer{Err: err}
	}
	for range 2 {
		a := x.op.Answer()
		if !sameAnswer(a, x.want) || !x.op.Step() {
			w.t.Fatalf("kind %d: %v, not %v", x.kind, a, x.want)
		}
		for i := range a.Found {
			spoil(a.Found[i].Clause.Head, a.Found[i].Clause.Body)
		}
		clear(a.Found[:cap(a.Found)])
	}
}

// compare holds what there is now against plain lists, and writes over what is answered.
func (w *watch) compare() {
	w.t.Helper()
	if n := w.db.Faults(); n != 0 {
		w.t.Fatalf("%d faults", n)
	}
	preds := w.db.Preds()
	if !slices.Equal(preds, w.preds) {
		w.t.Fatalf("Preds %v, not %v", preds, w.preds)
	}
	clear(preds[:cap(preds)])
	for p, l := range w.plain {
		got := w.db.List(p)
		if !w.db.Is(p) || !sameFound(got, l.found) {
			w.t.Fatalf("List(%v) = %v, not %v", p, got, l.found)
		}
		for i := range got {
			spoil(got[i].Clause.Head, got[i].Clause.Body)
		}
		clear(got[:cap(got)])
	}
}

// steal lets an operation do so many steps, if it isn't over before.
func (w *watch) steal(x *watched, n int) {
	w.t.Helper()
	for ; n > 0 && !x.op.Over(); n-- {
		w.step(x)
	}
}

// turns steps all operations to their end by turns.
func (w *watch) turns() {
	w.t.Helper()
	for i := 0; len(w.way) > 0; i++ {
		w.step(w.way[i%len(w.way)])
	}
}
