package atoms_test

import (
	"testing"

	"pythia/api"
	"pythia/atoms"
	"pythia/cells"
)

// watch steps operations on one table, and holds every one of their steps against the chapter.
type watch struct {
	t      *testing.T
	arena  *cells.Arena
	room   int // the arena's cells
	lists  int
	most   int
	table  *atoms.Table
	number map[string]int // the numbers that were answered
	there  map[string]bool
	way    []*watched // the operations under way
	steps  int        // how many steps were done since one was over
	ended  map[api.Errno]int
}

// watched is an operation under way.
type watched struct {
	op      *atoms.Op
	name    string
	known   bool // its name was there when it began
	put     bool // it has put its name in
	mayMany bool // at one of its steps ErrMany was right
	mayFull bool // at one of its steps ErrFull was right
	alone   int  // how many steps it did without one of another between
}

func newWatch(t *testing.T, room, lists, most int) *watch {
	t.Helper()
	a := cells.New(room)
	table, e := atoms.New(a, lists, most)
	if e != api.OK {
		t.Fatalf("New in %d cells = %d", room, e)
	}
	return &watch{
		t: t, arena: a, room: room, lists: lists, most: most, table: table,
		number: map[string]int{}, there: map[string]bool{}, ended: map[api.Errno]int{},
	}
}

// begin begins an operation.
func (w *watch) begin(name string) {
	w.t.Helper()
	o := w.table.Begin(name)
	if n, e := o.Answer(); o.Over() || n != 0 || e != api.OK {
		w.t.Fatalf("an operation on %q has begun: Over %v, Answer %d, %d", name, o.Over(), n, e)
	}
	w.way = append(w.way, &watched{op: o, name: name, known: w.there[name]})
	w.steps = 0
}

// free is how many cells are free.
func (w *watch) free() int {
	_, used := w.arena.Live()
	return w.room - used
}

// others is how many operations under way want other names, but for those that have put their own name in.
func (w *watch) others(name string) int {
	n := 0
	for _, x := range w.way {
		if x.name != name && !x.put {
			n++
		}
	}
	return n
}

// step lets the i-th operation under way do a step.
func (w *watch) step(i int) {
	w.t.Helper()
	x := w.way[i]
	if !w.there[x.name] && len(w.there)+w.others(x.name) >= w.most {
		x.mayMany = true
	}
	if w.free() < 4 {
		x.mayFull = true
	}
	made := w.arena.Made()
	over := x.op.Step()
	if over != x.op.Over() {
		w.t.Fatalf("Step tells %v, Over %v", over, x.op.Over())
	}
	if n, e := x.op.Answer(); !over && (n != 0 || e != api.OK) {
		w.t.Fatalf("%q is under way, and Answer is %d, %d", x.name, n, e)
	}
	if w.arena.Made() > made+1 {
		w.t.Fatalf("one step made %d blocks", w.arena.Made()-made)
	}
	w.count(x)
	w.pace(x)
	if over {
		w.way = append(w.way[:i:i], w.way[i+1:]...)
		w.steps = 0
		w.end(x)
	}
	w.bounds()
}

// count sees whether a step has put a name in.
func (w *watch) count(x *watched) {
	w.t.Helper()
	switch n := w.table.Len(); n {
	case len(w.there):
	case len(w.there) + 1:
		if w.there[x.name] {
			w.t.Fatalf("%q is there twice", x.name)
		}
		w.there[x.name], x.put = true, true
	default:
		w.t.Fatalf("Len %d, and it was %d", n, len(w.there))
	}
}

// pace holds how many steps were needed against P3.2.
func (w *watch) pace(x *watched) {
	w.t.Helper()
	n, k := len(w.there), len(w.way)
	for _, y := range w.way {
		if y != x {
			y.alone = 0
		}
	}
	if x.alone++; x.alone > 2*n+16 {
		w.t.Fatalf("%q was stepped %d times alone, with %d names there", x.name, x.alone, n)
	}
	if w.steps++; w.steps > k*(2*(n+k)+16) {
		w.t.Fatalf("%d operations did %d steps with %d names there, and none is over", k, w.steps, n)
	}
}

// bounds holds the table's size against what it may take.
func (w *watch) bounds() {
	w.t.Helper()
	if n := w.table.Len(); n > w.most {
		w.t.Fatalf("%d names, of at most %d", n, w.most)
	}
	if most := 2*w.lists + 8 + 4*(len(w.there)+len(w.way)); w.room-w.free() > most {
		w.t.Fatalf("%d cells, of at most %d", w.room-w.free(), most)
	}
	if n := w.arena.Faults(); n != 0 {
		w.t.Fatalf("%d faults", n)
	}
}

// end holds an operation's answer against what was to be seen of it.
func (w *watch) end(x *watched) {
	w.t.Helper()
	n, e := x.op.Answer()
	if !x.op.Step() || !x.op.Over() {
		w.t.Fatalf("an operation on %q goes on behind its end", x.name)
	}
	if m, f := x.op.Answer(); m != n || f != e {
		w.t.Fatalf("%q: Answer %d, %d, then %d, %d", x.name, n, e, m, f)
	}
	w.ended[e]++
	switch {
	case e == api.OK && n > 0 && w.there[x.name]:
		w.same(x.name, n)
	case n != 0 || x.known:
		w.t.Fatalf("Answer of %q, which is there: %d, %d", x.name, n, e)
	case e == api.ErrMany && x.mayMany:
	case e == api.ErrFull && x.mayFull:
	default:
		w.t.Fatalf("Answer of %q: %d, %d (ErrMany may be: %v, ErrFull: %v)", x.name, n, e, x.mayMany, x.mayFull)
	}
}

// same sees whether a name has one number.
func (w *watch) same(name string, n int) {
	w.t.Helper()
	if m, ok := w.number[name]; ok && m != n {
		w.t.Fatalf("%q is %d and %d", name, m, n)
	}
	w.number[name] = n
	if s, ok := w.table.Name(n); s != name || !ok {
		w.t.Fatalf("Name(%d) = %q, %v, not %q", n, s, ok, name)
	}
}

// rest sees whether nothing is left of what came to nothing: a table in which just the names that are there were put takes as much.
func (w *watch) rest() {
	w.t.Helper()
	if len(w.way) != 0 {
		w.t.Fatalf("%d operations are under way", len(w.way))
	}
	a := cells.New(w.room)
	fresh, _ := atoms.New(a, w.lists, w.most)
	for name := range w.there {
		if _, e := fresh.Intern(name); e != api.OK {
			w.t.Fatalf("Intern(%q) in a fresh table: %d", name, e)
		}
	}
	blocks, used := w.arena.Live()
	if b, u := a.Live(); b != blocks || u != used {
		w.t.Fatalf("Live %d, %d, not %d, %d", blocks, used, b, u)
	}
	for name := range w.there {
		n, e := w.table.Intern(name)
		if e != api.OK {
			w.t.Fatalf("Intern(%q), which is there: %d", name, e)
		}
		w.same(name, n)
	}
	if n := w.table.Len(); n != len(w.there) {
		w.t.Fatalf("Len %d, not %d", n, len(w.there))
	}
}

// intern is an operation from its beginning to its end, step by step.
func (w *watch) intern(names ...string) {
	w.t.Helper()
	for _, name := range names {
		w.begin(name)
		for i := len(w.way) - 1; len(w.way) > i; {
			w.step(i)
		}
	}
}

// turns steps all operations to their end by turns.
func (w *watch) turns() {
	w.t.Helper()
	for i := 0; len(w.way) > 0; i++ {
		w.step(i % len(w.way))
	}
}
