package atoms_test

import (
	"strconv"
	"strings"
	"testing"

	"pythia/api"
	"pythia/atoms"
	"pythia/cells"
)

// newTable makes a table that must come about.
func newTable(t *testing.T, a *cells.Arena, lists, most int) *atoms.Table {
	t.Helper()
	table, e := atoms.New(a, lists, most)
	if e != api.OK || table == nil {
		t.Fatalf("New(%d, %d) = %v, %d", lists, most, table, e)
	}
	return table
}

// intern puts a name in, which must go well.
func intern(t *testing.T, table *atoms.Table, name string) int {
	t.Helper()
	n, e := table.Intern(name)
	if n <= 0 || e != api.OK {
		t.Fatalf("Intern(%q) = %d, %d", name, n, e)
	}
	return n
}

// refuse puts a name in, which must be refused and change nothing.
func refuse(t *testing.T, a *cells.Arena, table *atoms.Table, name string, want api.Errno) {
	t.Helper()
	blocks, used := a.Live()
	names, made := table.Len(), a.Made()
	if n, e := table.Intern(name); n != 0 || e != want {
		t.Fatalf("Intern(%q) = %d, %d, not 0, %d", name, n, e, want)
	}
	if b, u := a.Live(); b != blocks || u != used || table.Len() != names || a.Made() != made || a.Faults() != 0 {
		t.Fatalf("Intern(%q) was refused: Live %d, %d, Len %d, Made %d, Faults %d", name, b, u, table.Len(), a.Made(), a.Faults())
	}
}

// fill takes all cells but so many.
func fill(t *testing.T, a *cells.Arena, room, but int) {
	t.Helper()
	for {
		_, used := a.Live()
		n := min(room-used-but, api.MaxBlock)
		if n <= 0 {
			return
		}
		if _, e := a.Alloc(n); e != api.OK {
			t.Fatalf("Alloc(%d) = %d", n, e)
		}
	}
}

// P3.1: the chapter's examples.
func TestExamples(t *testing.T) {
	table := newTable(t, cells.New(100), 4, 10)
	a, b := intern(t, table, "a"), intern(t, table, "b")
	if a == b || intern(t, table, "a") != a || table.Len() != 2 {
		t.Errorf("a %d, b %d, a %d, Len %d", a, b, intern(t, table, "a"), table.Len())
	}
	x, y := table.Begin("c"), table.Begin("c")
	for !x.Over() || !y.Over() {
		x.Step()
		y.Step()
	}
	m, e := x.Answer()
	n, f := y.Answer()
	if m != n || m == a || m == b || e != api.OK || f != api.OK || table.Len() != 3 {
		t.Errorf("c: %d, %d and %d, %d; Len %d", m, e, n, f, table.Len())
	}
}

// P3.1: as many names as may be, in few lists and in many: each has its own number, which is turned back.
func TestNames(t *testing.T) {
	for _, lists := range []int{1, 7, 64} {
		a := cells.New(api.MaxCells)
		table := newTable(t, a, lists, api.MaxAtoms)
		number := map[int]string{}
		for i := range api.MaxAtoms {
			name := strconv.Itoa(i)
			n := intern(t, table, name)
			if s, ok := number[n]; ok {
				t.Fatalf("%q and %q are %d", s, name, n)
			}
			number[n] = name
			if table.Len() != i+1 {
				t.Fatalf("Len %d behind %d names", table.Len(), i+1)
			}
		}
		for n, name := range number {
			if s, ok := table.Name(n); s != name || !ok {
				t.Fatalf("Name(%d) = %q, %v, not %q", n, s, ok, name)
			}
			if lists == 64 && intern(t, table, name) != n {
				t.Fatalf("%q isn't %d any more", name, n)
			}
		}
		refuse(t, a, table, "x", api.ErrMany)
	}
}

// P3.1: names that hardly differ.
func TestAlike(t *testing.T) {
	table := newTable(t, cells.New(1000), 2, 100)
	long := strings.Repeat("n", api.MaxName-1)
	names := []string{"", "\x00", "\x00\x00", " ", "a", "A", "a ", "aa", "\xff", "\xc3\xa4", "\xe4", long, long + "n", long + "m"}
	number := map[int]bool{}
	for _, name := range names {
		n := intern(t, table, name)
		if s, ok := table.Name(n); number[n] || s != name || !ok {
			t.Errorf("%q is %d, which is %q, %v", name, n, s, ok)
		}
		number[n] = true
	}
	if table.Len() != len(names) {
		t.Errorf("Len %d, not %d", table.Len(), len(names))
	}
}

// P3.1: tables over one arena have no number in common, and no table tells another one's.
func TestTables(t *testing.T) {
	a := cells.New(1000)
	one, two := newTable(t, a, 3, 50), newTable(t, a, 5, 50)
	number := map[int]bool{}
	for i := range 50 {
		name := strconv.Itoa(i)
		x, y := intern(t, one, name), intern(t, two, name)
		if x == y || number[x] || number[y] {
			t.Fatalf("%q is %d and %d, which was there", name, x, y)
		}
		number[x], number[y] = true, true
		if s, ok := two.Name(x); s != "" || ok {
			t.Errorf("Name(%d) of the other table = %q, %v", x, s, ok)
		}
		if s, ok := one.Name(y); s != "" || ok {
			t.Errorf("Name(%d) of the other table = %q, %v", y, s, ok)
		}
	}
	if one.Len() != 50 || two.Len() != 50 {
		t.Errorf("Len %d and %d", one.Len(), two.Len())
	}
}

// P3.1: what is no name's number: none at all, somebody else's block, and one of an operation under way.
func TestNoName(t *testing.T) {
	a := cells.New(1000)
	other, _ := a.Alloc(2)
	table := newTable(t, a, 3, 50)
	intern(t, table, "a")
	begun := table.Begin("b")
	for i := 0; !begun.Over(); i++ {
		for n := -1; n <= a.Made()+1; n++ {
			s, ok := table.Name(n)
			if ok != (s == "a") || s != "" && s != "a" {
				t.Fatalf("behind %d steps: Name(%d) = %q, %v", i, n, s, ok)
			}
		}
		begun.Step()
	}
	for _, n := range []int{-1 << 63, -1, 0, other, a.Made() + 1, 1<<63 - 1, 1 << 48} {
		if s, ok := table.Name(n); s != "" || ok {
			t.Errorf("Name(%d) = %q, %v", n, s, ok)
		}
	}
	late := table.Begin("c")
	for !late.Over() {
		if got := a.Made(); late.Step() && a.Made() != got {
			t.Fatalf("the last step made a block")
		}
	}
	if n, _ := late.Answer(); n == 0 {
		t.Errorf("Answer 0")
	}
}

// P3.1: a block that an operation has made for nothing isn't a number, before and behind its end.
func TestLoser(t *testing.T) {
	a := cells.New(1000)
	table := newTable(t, a, 1, 50)
	loser := table.Begin("c")
	for a.Made() == 1 {
		loser.Step()
	}
	lost := a.Made()
	c := intern(t, table, "c")
	for {
		if s, ok := table.Name(lost); s != "" || ok {
			t.Fatalf("Name(%d) = %q, %v", lost, s, ok)
		}
		if loser.Over() {
			break
		}
		loser.Step()
	}
	if n, e := loser.Answer(); n != c || e != api.OK || table.Len() != 1 || a.Faults() != 0 {
		t.Errorf("Answer %d, %d, not %d; Len %d, Faults %d", n, e, c, table.Len(), a.Faults())
	}
	if _, e := a.Size(lost); e != api.ErrFreed {
		t.Errorf("Size(%d): %d: the block is still there", lost, e)
	}
}

// P3.3: a table of at most so many names, the number clamped.
func TestMany(t *testing.T) {
	for _, c := range []struct{ most, may int }{{-1 << 63, 0}, {-1, 0}, {0, 0}, {1, 1}, {5, 5}, {api.MaxAtoms, api.MaxAtoms}, {api.MaxAtoms + 1, api.MaxAtoms}, {1<<63 - 1, api.MaxAtoms}} {
		a := cells.New(api.MaxCells)
		table := newTable(t, a, 64, c.most)
		for i := range c.may {
			intern(t, table, strconv.Itoa(i))
		}
		refuse(t, a, table, "x", api.ErrMany)
		if c.may > 0 {
			intern(t, table, "0")
		}
		if table.Len() != c.may {
			t.Errorf("New(_, %d): Len %d, not %d", c.most, table.Len(), c.may)
		}
	}
}

// P3.3: without a free cell there are no names any more, but those that are there; with four there is one.
func TestFull(t *testing.T) {
	for but := range 5 {
		a := cells.New(300)
		table := newTable(t, a, 64, 50)
		x := intern(t, table, "x")
		fill(t, a, 300, but)
		n, e := table.Intern("y")
		if but == 0 && e != api.ErrFull || but == 4 && e != api.OK || (n > 0) != (e == api.OK) {
			t.Errorf("with %d cells free: Intern = %d, %d", but, n, e)
		}
		fill(t, a, 300, 0)
		refuse(t, a, table, "z", api.ErrFull)
		if intern(t, table, "x") != x {
			t.Errorf("x isn't %d any more", x)
		}
	}
}

// P3.3: the first that applies is answered: ErrLong, then ErrMany, then ErrFull.
func TestFirst(t *testing.T) {
	a := cells.New(300)
	table := newTable(t, a, 64, 2)
	long := strings.Repeat("n", api.MaxName+1)
	refuse(t, a, table, long, api.ErrLong)
	intern(t, table, "x")
	fill(t, a, 300, 1)
	intern(t, table, "y")
	refuse(t, a, table, "z", api.ErrMany)
	refuse(t, a, table, long, api.ErrLong)
	refuse(t, a, table, strings.Repeat("n", 1<<20), api.ErrLong)
	refuse(t, a, table, strings.Repeat("n", api.MaxName), api.ErrMany)
}

// P3.3: an operation on a name that is too long isn't over right behind Begin either, and makes nothing.
func TestLong(t *testing.T) {
	w := newWatch(t, 100, 2, 10)
	o := w.table.Begin(strings.Repeat("n", api.MaxName+1))
	if n, e := o.Answer(); o.Over() || n != 0 || e != api.OK {
		t.Fatalf("Over %v, Answer %d, %d right behind Begin", o.Over(), n, e)
	}
	for i := 0; !o.Step(); i++ {
		if i > 16 {
			t.Fatalf("it doesn't end")
		}
	}
	if n, e := o.Answer(); n != 0 || e != api.ErrLong || w.arena.Made() != 1 || !o.Step() {
		t.Errorf("Answer %d, %d; Made %d", n, e, w.arena.Made())
	}
	w.rest()
}

// P3.3: how many lists there are is clamped, and a table is refused just where there is no room for its lists.
func TestLists(t *testing.T) {
	for _, c := range []struct{ lists, are int }{{-1 << 63, 1}, {-1, 1}, {0, 1}, {1, 1}, {2, 2}, {63, 63}, {64, 64}, {65, 64}, {1<<63 - 1, 64}} {
		for room := range 2*c.are + 9 {
			a := cells.New(room)
			table, e := atoms.New(a, c.lists, 10)
			_, used := a.Live()
			switch {
			case e == api.OK && table != nil && used <= 2*c.are+8:
			case e == api.ErrFull && table == nil && used == 0 && room < 2*c.are+8:
			default:
				t.Errorf("New(%d) in %d cells = %v, %d, with %d cells taken", c.lists, room, table, e, used)
			}
		}
	}
	if table, e := atoms.New(cells.New(0), 1, 1); table != nil || e != api.ErrFull {
		t.Errorf("New without a cell = %v, %d", table, e)
	}
}

// P3.3: with one name to be had, two operations on it both get it, though both have seen that it isn't there.
func TestLastOne(t *testing.T) {
	for left := range 6 {
		w := newWatch(t, 100, 1, 2)
		w.intern("a")
		w.begin("c")
		for range left {
			w.step(0)
		}
		w.begin("c")
		for len(w.way) > 1 {
			w.step(1)
		}
		w.turns()
		w.rest()
		if w.ended[api.OK] != 3 {
			t.Errorf("left behind %d steps: %v", left, w.ended)
		}
	}
}

// P3.3: an operation whose name was there when it began changes nothing at all.
func TestKnown(t *testing.T) {
	a := cells.New(100)
	table := newTable(t, a, 2, 10)
	for _, name := range []string{"a", "b", "c"} {
		intern(t, table, name)
	}
	blocks, used := a.Live()
	made := a.Made()
	for _, name := range []string{"c", "a", "b", "c"} {
		intern(t, table, name)
	}
	if b, u := a.Live(); b != blocks || u != used || a.Made() != made || table.Len() != 3 {
		t.Errorf("Live %d, %d, Made %d, Len %d, not %d, %d, %d, 3", b, u, a.Made(), table.Len(), blocks, used, made)
	}
}

// P3.3: a name that comes while an operation finds no room for it is answered, though there is none.
func TestComesLate(t *testing.T) {
	w := newWatch(t, 4, 1, 10)
	w.begin("c")
	for w.arena.Made() == 1 {
		w.step(0)
	}
	w.begin("d")
	for w.arena.Made() == 2 {
		w.step(1)
	}
	w.begin("c")
	for range 3 { // it has found that there is no room
		w.step(2)
	}
	for len(w.way) == 3 {
		w.step(0)
	}
	w.turns()
	w.rest()
	if w.ended[api.OK] != 3 || w.ended[api.ErrFull] != 0 {
		t.Errorf("%v", w.ended)
	}
}

// P3.2: somebody who frees the table's blocks gets an answer, whichever, and not an endless call.
func TestFreedTable(t *testing.T) {
	a := cells.New(100)
	table := newTable(t, a, 2, 10)
	intern(t, table, "a")
	a.Free(1)
	if n, e := table.Intern("b"); n != 0 || e == api.OK {
		t.Errorf("Intern = %d, %d", n, e)
	}
}
