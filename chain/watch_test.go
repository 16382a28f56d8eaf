package chain_test

import (
	"maps"
	"slices"
	"testing"

	"pythia/api"
	"pythia/cells"
	"pythia/chain"
	"pythia/epoch"
)

// What an operation is for.
const (
	front = iota
	behind
	cut
	all
)

// plain is a chain as a plain list, on which all is done at once.
type plain struct {
	values []int64
	stamp  int64
}

// do does an operation at once.
func (p *plain) do(kind int, value int64) chain.Answer {
	ok := true
	switch kind {
	case front:
		p.values = slices.Insert(p.values, 0, value)
	case behind:
		p.values = append(p.values, value)
	case cut:
		i := slices.Index(p.values, value)
		if ok = i >= 0; ok {
			p.values = slices.Delete(p.values, i, i+1)
		}
	case all:
		return chain.Answer{Ok: true, Stamp: p.stamp, Values: slices.Clone(p.values)}
	}
	if ok {
		p.stamp++
	}
	return chain.Answer{Ok: ok, Stamp: p.stamp}
}

// watch steps operations on one base, and holds every one of their steps against the chapter.
type watch struct {
	t       *testing.T
	arena   *cells.Arena
	room    int
	yard    *epoch.Yard
	threads int
	base    *chain.Base
	chains  int
	plain   []plain // the n-th chain at place n
	way     []*watched
	steps   int // how many steps were done since one was begun or over
	ended   map[api.Errno]int
}

// watched is an operation under way.
type watched struct {
	op       *chain.Op
	kind     int
	thread   int
	chain    int
	value    int64
	steps    int
	inside   bool // it is in the yard
	done     bool
	want     chain.Answer // what it is to answer, once it has taken effect
	len      int          // how long its chain was then
	longest  int          // how long a chain was while it was under way
	wasFull  bool         // its chain was full then
	wasThere bool         // its number was in its chain then
	right    map[api.Errno]bool
}

func newWatch(t *testing.T, room, threads, bound, chains int) *watch {
	t.Helper()
	a := cells.New(room)
	y := epoch.New(a, threads, bound)
	b, e := chain.New(a, y, chains)
	if e != api.OK {
		t.Fatalf("New in %d cells: %d", room, e)
	}
	return &watch{
		t: t, arena: a, room: room, yard: y, threads: threads, base: b, chains: chains,
		plain: make([]plain, chains+1), ended: map[api.Errno]int{},
	}
}

// begin begins an operation.
func (w *watch) begin(kind, thread, ch int, value int64) *watched {
	w.t.Helper()
	x := &watched{kind: kind, thread: thread, chain: ch, value: value, right: map[api.Errno]bool{}}
	switch kind {
	case front, behind:
		x.op = w.base.Add(thread, ch, value, kind == front)
	case cut:
		x.op = w.base.Cut(thread, ch, value)
	case all:
		x.op = w.base.All(thread, ch)
	}
	if a := x.op.Answer(); x.op.Over() || x.op.Done() || !same(a, chain.Answer{}) {
		w.t.Fatalf("an operation has begun: Over %v, Done %v, Answer %v", x.op.Over(), x.op.Done(), a)
	}
	w.way = append(w.way, x)
	w.steps = 0
	w.look(x)
	return x
}

// look notes what may be a reason for what an operation under way answers.
func (w *watch) look(x *watched) {
	for _, p := range w.plain {
		x.longest = max(x.longest, len(p.values))
	}
	if x.chain >= 1 && x.chain <= w.chains {
		p := w.plain[x.chain]
		x.wasFull = x.wasFull || len(p.values) >= api.MaxClause
		x.wasThere = x.wasThere || slices.Contains(p.values, x.value)
	}
}

// before notes which errors an operation may answer behind its next step.
func (w *watch) before(x *watched) {
	if x.steps == 0 {
		switch {
		case x.thread < 1 || x.thread > w.threads || x.chain < 1 || x.chain > w.chains:
			x.right[api.ErrArg] = true
		case w.isInside(x.thread):
			x.right[api.ErrInside] = true
		}
	}
	if x.kind == all || x.kind == cut && !x.wasThere {
		return
	}
	if x.wasFull && x.kind != cut {
		x.right[api.ErrMany] = true
	}
	if w.yard.Limbo(x.thread) >= w.yard.Bound() {
		x.right[api.ErrLimbo] = true
	}
	if _, used := w.arena.Live(); w.room-used < 2+x.longest {
		x.right[api.ErrFull] = true
	}
}

func (w *watch) isInside(thread int) bool {
	return slices.ContainsFunc(w.way, func(x *watched) bool { return x.inside && x.thread == thread })
}

// step lets an operation under way do a step.
func (w *watch) step(x *watched) bool {
	w.t.Helper()
	w.before(x)
	made := w.arena.Made()
	over := x.op.Step()
	x.steps++
	if over != x.op.Over() {
		w.t.Fatalf("Step tells %v, Over %v", over, x.op.Over())
	}
	if w.arena.Made() > made+1 {
		w.t.Fatalf("one step made %d blocks", w.arena.Made()-made)
	}
	x.inside = !over
	w.effect(x)
	for _, y := range w.way {
		w.look(y)
	}
	w.pace(x)
	if !over {
		if a := x.op.Answer(); !same(a, chain.Answer{}) {
			w.t.Fatalf("an operation under way answers %v", a)
		}
	} else {
		w.end(x)
	}
	w.compare()
	return over
}

// effect does at once on plain lists what takes effect.
func (w *watch) effect(x *watched) {
	w.t.Helper()
	if done := x.op.Done(); done != x.done {
		if x.done {
			w.t.Fatalf("what has taken effect hasn't any more")
		}
		x.done = true
		x.want = w.plain[x.chain].do(x.kind, x.value)
		x.len = len(w.plain[x.chain].values)
	}
}

// pace holds how many steps were needed against P5.3.
func (w *watch) pace(x *watched) {
	w.t.Helper()
	k, n := len(w.way), 0
	for _, y := range w.way {
		n = max(n, y.longest)
	}
	if w.steps++; w.steps > k*(k+1)*(2*(n+k)+16) {
		w.t.Fatalf("%d operations did %d steps on chains of at most %d, and none is over", k, w.steps, n)
	}
	if told := len(x.want.Values); x.kind == all && x.done && x.steps > 2*(told+1)+16 {
		w.t.Fatalf("an All that tells %d numbers has done %d steps", told, x.steps)
	}
}

// end holds an operation's answer against what was to be seen of it.
func (w *watch) end(x *watched) {
	w.t.Helper()
	w.way = slices.DeleteFunc(w.way, func(y *watched) bool { return y == x })
	w.steps = 0
	a := x.op.Answer()
	w.ended[a.Err]++
	switch {
	case a.Err == api.OK && x.done && same(a, x.want):
	case a.Err != api.OK && !x.done && same(a, chain.Answer{Err: a.Err}) && x.right[a.Err]:
	default:
		w.t.Fatalf("kind %d of %d on chain %d: Done %v, Answer %v, not %v (errors that may be: %v)", x.kind, x.value, x.chain, x.done, a, x.want, x.right)
	}
	w.least(x, a)
	if !x.op.Step() || !x.op.Over() || x.op.Done() != x.done || !same(x.op.Answer(), a) {
		w.t.Fatalf("an operation goes on behind its end")
	}
}

// least sees whether an operation did as many steps as it touched cells, at least.
func (w *watch) least(x *watched, a chain.Answer) {
	w.t.Helper()
	touched := 0
	switch {
	case a.Err != api.OK || a.Stamp == 0:
	case x.kind == all:
		touched = 2 + len(a.Values)
	case a.Ok:
		// Those of the new list, the chain's one twice, and from the second change on those of the old list.
		touched = 3 + x.len
		if a.Stamp > 1 {
			touched += x.len
		}
	}
	if x.steps < touched {
		w.t.Fatalf("kind %d: %d cells in %d steps", x.kind, touched, x.steps)
	}
}

// compare holds what there is now against plain lists.
func (w *watch) compare() {
	w.t.Helper()
	if n := w.arena.Faults(); n != 0 {
		w.t.Fatalf("%d faults", n)
	}
	changed := 0
	for c := 1; c <= w.chains; c++ {
		values, stamp := w.base.List(c)
		if p := w.plain[c]; !slices.Equal(values, p.values) || stamp != p.stamp {
			w.t.Fatalf("chain %d is %v, %d, not %v, %d", c, values, stamp, p.values, p.stamp)
		}
		if stamp > 0 {
			changed++
		}
	}
	waiting := w.yard.Waiting()
	least := 1 + changed + len(waiting)
	begun := len(slices.DeleteFunc(slices.Clone(w.way), func(x *watched) bool { return x.steps == 0 }))
	if live, _ := w.arena.Live(); live < least || live > least+begun {
		w.t.Fatalf("%d blocks are live; %d chains were changed, %v wait, %d operations are under way", live, changed, waiting, begun)
	}
	if inside := w.yard.Inside(); len(inside) != begun {
		w.t.Fatalf("inside: %v, under way: %d", inside, begun)
	}
}

// run is an operation from its beginning to its end.
func (w *watch) run(kind, thread, ch int, value int64) chain.Answer {
	w.t.Helper()
	x := w.begin(kind, thread, ch, value)
	for !w.step(x) {
	}
	return x.op.Answer()
}

// turns steps all operations to their end by turns.
func (w *watch) turns() {
	w.t.Helper()
	for i := 0; len(w.way) > 0; i++ {
		w.step(w.way[i%len(w.way)])
	}
}

// fill sets a chain up with so many numbers, 1 and up.
func (w *watch) fill(thread, ch, n int) {
	w.t.Helper()
	for i := range n {
		if a := w.run(behind, thread, ch, int64(i+1)); a.Err != api.OK {
			w.t.Fatalf("Add number %d: %v", i+1, a)
		}
	}
	clear(w.ended)
}

func same(a, b chain.Answer) bool {
	return a.Err == b.Err && a.Ok == b.Ok && a.Stamp == b.Stamp && slices.Equal(a.Values, b.Values)
}

// errs is a set of errors.
func errs(ended map[api.Errno]int) []api.Errno {
	return slices.Sorted(maps.Keys(ended))
}
