package heap_test

import (
	"math"
	"math/rand"
	"slices"
	"testing"

	"pythia/api"
	"pythia/heap"
	"pythia/term"
)

// P13.1: which terms can be made the same, and what becomes of them. (Their variables stand for those of a q(X1, .. X5) ahead of them.)
func TestUnify(t *testing.T) {
	f := func(args ...api.Term) api.Term { return co("f", args...) }
	for _, c := range []struct {
		a, b, want api.Term
		notes      int // below 0: they can't
	}{
		{at("a"), at("a"), at("a"), 0},
		{at("a"), at("b"), api.Term{}, -1},
		{nu(1), nu(1), nu(1), 0},
		{nu(1), nu(2), api.Term{}, -1},
		{nu(0), at(""), api.Term{}, -1},
		{nu(0), at("0"), api.Term{}, -1},
		{nu(math.MinInt64), nu(math.MinInt64), nu(math.MinInt64), 0},
		{f(at("a")), f(at("a")), f(at("a")), 0},
		{f(at("a")), co("g", at("a")), api.Term{}, -1},
		{f(at("a")), f(at("a"), at("a")), api.Term{}, -1},
		{f(at("a")), at("f"), api.Term{}, -1},
		{f(nu(0)), nu(0), api.Term{}, -1},
		{f(va(1), at("b")), f(at("a"), va(2)), f(at("a"), at("b")), 2},
		{va(1), va(1), va(1), 0},
		{va(2), va(1), va(1), 1},
		{va(1), va(2), va(1), 1},
		{va(1), f(va(2)), f(va(2)), 1},
		{va(1), f(va(1)), api.Term{}, -1},
		{f(va(1)), f(f(va(1))), api.Term{}, -1},
		{f(va(1), va(1)), f(at("a"), at("b")), api.Term{}, -1},
		{f(va(1), va(1)), f(at("a"), at("a")), f(at("a"), at("a")), 1},
		{f(va(1), va(2), va(1)), f(va(2), at("a"), at("b")), api.Term{}, -1},
		{f(va(3), va(2), va(4)), f(va(2), va(4), va(5)), f(va(2), va(2), va(2)), 3},
		{f(va(3), va(2), va(4)), f(va(2), va(4), at("a")), f(at("a"), at("a"), at("a")), 3},
		{f(va(1), va(2), va(3)), f(va(2), va(3), va(1)), f(va(1), va(1), va(1)), 2},
		{f(va(3), va(2), va(1)), f(va(4), va(4), va(4)), f(va(1), va(1), va(1)), 3},
		{f(va(1), va(2)), f(co("s", va(2)), co("s", va(1))), api.Term{}, -1},
		{f(va(1), va(2)), f(va(2), co("s", va(1))), api.Term{}, -1},
		{f(va(1), va(1)), f(co("s", va(2)), co("s", co("s", va(2)))), api.Term{}, -1},
		{f(va(1), va(1)), f(co("g", va(2), va(3)), co("g", va(3), va(4))), f(co("g", va(2), va(2)), co("g", va(2), va(2))), 3},
		{f(va(1), co("s", va(1))), f(va(2), co("s", va(2))), f(va(1), co("s", va(1))), 1},
		{f(co("s", va(1)), va(1)), f(va(1), va(1)), api.Term{}, -1},
		{f(va(1), va(2), va(3), at("a")), f(co("s", va(2)), co("s", va(3)), co("s", va(1)), at("a")), api.Term{}, -1},
		{f(co("g", va(5)), va(5)), f(co("g", va(4)), co("h", va(3))), f(co("g", co("h", va(3))), co("h", va(3))), 2},
		{f(va(1), va(1), va(1)), f(co("g", va(2)), co("g", va(3)), co("g", at("a"))), f(co("g", at("a")), co("g", at("a")), co("g", at("a"))), 3},
		{f(va(1), va(2), at("a")), f(at("x"), at("y"), at("b")), api.Term{}, -1},
	} {
		for _, isTurned := range []bool{false, true} {
			h := heap.New(1000, max(c.notes, 0))
			_, stands := put(t, h, co("q", va(1), va(2), va(3), va(4), va(5)))
			a, b := c.a, c.b
			if isTurned {
				a, b = untidy(c.b), untidy(c.a)
			}
			x, _ := put(t, h, a, stands...)
			y, _ := put(t, h, b, stands...)
			wasX, _ := h.Take(x)
			wasY, _ := h.Take(y)
			cells, _, _ := h.Used()
			unifies(t, h, x, y, c.notes >= 0, api.OK)
			used(t, h, cells, max(c.notes, 0), 0)
			if c.notes < 0 {
				takes(t, h, x, wasX)
				takes(t, h, y, wasY)
				takes(t, h, 0, co("q", va(2), va(3), va(4), va(5), va(6)))
				continue
			}
			want, _, _ := term.Rename(co("q", va(1), va(2), va(3), va(4), va(5), c.want), 2)
			takes(t, h, x, want.Args[5])
			takes(t, h, y, want.Args[5])
		}
	}
}

// P13.1: when there is no solution, it makes no difference how few notes there may be.
func TestNoneOrFull(t *testing.T) {
	h := heap.New(100, 1)
	x, _ := put(t, h, co("f", va(1), va(2), at("a")))
	y, _ := put(t, h, co("f", at("x"), at("y"), at("b")))
	z, _ := put(t, h, co("f", at("x"), at("y"), at("a")))
	w, _ := put(t, h, co("f", co("s", va(1)), va(1), va(2)))
	unifies(t, h, x, y, false, api.OK)
	unifies(t, h, y, x, false, api.OK)
	unifies(t, h, x, z, false, api.ErrTrail)
	unifies(t, h, z, x, false, api.ErrTrail)
	takes(t, h, x, co("f", va(2), va(3), at("a")))
	unifies(t, h, w+2, w+1, false, api.OK)
	unifies(t, h, x, w, false, api.ErrTrail)
	used(t, h, 17, 0, 0)
	unifies(t, h, x+1, z, true, api.OK)
	unifies(t, h, x+2, z, false, api.ErrTrail)
	unifies(t, h, x+1, z, true, api.OK)
	unifies(t, h, x+1, y, false, api.OK)
	used(t, h, 17, 1, 0)
}

// P13.1, P13.2: with just the notes that are needed it goes; with one fewer it is refused, and nothing has changed.
func TestTrailFullByOne(t *testing.T) {
	r := rand.New(rand.NewSource(131))
	refused := 0
	for range 3000 {
		a, b := anyTerm(r, 4, 4), anyTerm(r, 4, 4)
		roomy := heap.New(10000, 10000)
		x, env := put(t, roomy, a)
		y, _ := put(t, roomy, b, env...)
		before, _, _ := roomy.Used()
		ok, e := roomy.Unify(x, y)
		_, notes, _ := roomy.Used()
		if e != api.OK || !ok && notes > 0 || ok && notes == 0 && !same(a, b) || notes > 2*(term.Size(a)+term.Size(b)) {
			t.Fatalf("%s, %s: %v, %d, %d notes", text(a), text(b), ok, e, notes)
		}
		if !ok || notes == 0 {
			continue
		}
		refused++
		for _, trail := range []int{notes, notes - 1, 0} {
			h := heap.New(10000, trail)
			put(t, h, a)
			put(t, h, b, env...)
			wasX, _ := h.Take(x)
			wasY, _ := h.Take(y)
			if trail == notes {
				unifies(t, h, x, y, true, api.OK)
				used(t, h, before, notes, 0)
				continue
			}
			unifies(t, h, x, y, false, api.ErrTrail)
			used(t, h, before, 0, 0)
			takes(t, h, x, wasX)
			takes(t, h, y, wasY)
		}
	}
	if refused < 500 {
		t.Errorf("%d are refused", refused)
	}
}

// P13.1: two terms of one Put each become what layer 7's solution makes of them.
func TestSolution(t *testing.T) {
	r := rand.New(rand.NewSource(132))
	solved := 0
	for range 20000 {
		a, b := anyTerm(r, 4, 4), anyTerm(r, 4, 4)
		binds, want, e := term.Solve(a, b)
		if e != api.OK {
			t.Fatalf("%s, %s: %d", text(a), text(b), e)
		}
		h := heap.New(10000, 10000)
		x, env := put(t, h, a)
		y, _ := put(t, h, b, env...)
		unifies(t, h, x, y, want, api.OK)
		was, _ := h.Take(x)
		if !want {
			if !term.Variant(was, a) {
				t.Fatalf("%s, %s: %s behind failure", text(a), text(b), text(was))
			}
			continue
		}
		solved++
		takes(t, h, y, was)
		whole, _ := term.Apply(co("q", a, b), binds)
		both, _ := put(t, h, co("q", va(1), va(2)), x, y)
		if got, _ := h.Take(both); !term.Variant(got, whole) {
			t.Fatalf("%s, %s become %s, not %s", text(a), text(b), text(got), text(whole))
		}
	}
	if solved < 3000 {
		t.Errorf("%d have a solution", solved)
	}
}

// grown puts in a term of 2^height leaves, whose variables are others; it answers where it is, and the variable at its leaves.
func grown(t *testing.T, h *heap.Heap, height int) (int, int) {
	t.Helper()
	leaf, stands := put(t, h, va(1))
	at := stands[0]
	for range height {
		at, _ = put(t, h, co("d", va(1), va(1)), at)
	}
	return at, leaf
}

// P13.1: terms that are greater than can be written out are made the same, and told apart, too.
func TestBeyondMeasure(t *testing.T) {
	h := heap.New(20000, 3000)
	a, leafOfA := grown(t, h, 2000)
	b, leafOfB := grown(t, h, 2000)
	c, _ := grown(t, h, 1999)
	untaken(t, h, a, api.ErrLong)
	x, _ := put(t, h, at("x"))
	y, _ := put(t, h, at("y"))
	m := h.Mark()
	cells, _, _ := h.Used()
	unifies(t, h, a, b, true, api.OK)
	used(t, h, cells, 1, m)
	takes(t, h, leafOfB, va(int64(leafOfA)+1))
	unifies(t, h, leafOfA, x, true, api.OK)
	takes(t, h, leafOfB, at("x"))
	unifies(t, h, leafOfB, y, false, api.OK)
	h.Undo(m)
	unifies(t, h, a, leafOfA, false, api.OK)
	unifies(t, h, a, leafOfB, true, api.OK)
	untaken(t, h, b, api.ErrLong)
	unifies(t, h, a, b, false, api.OK)
	h.Undo(m)
	unifies(t, h, leafOfA, x, true, api.OK)
	unifies(t, h, leafOfB, y, true, api.OK)
	unifies(t, h, a, b, false, api.OK)
	used(t, h, cells, 2, m)
	h.Undo(m)
	unifies(t, h, a, c, true, api.OK)
	used(t, h, cells, 1, m)
}

// P13.1: a solution that doubles at each variable.
func TestDoubling(t *testing.T) {
	h := heap.New(10000, 10000)
	var x, y []int
	_, stands := put(t, h, co("f", va(1), va(2)))
	x, y = append(x, stands[0]), append(y, stands[1])
	for i := range 500 {
		a, more := put(t, h, co("d", va(1), va(2), va(2)), -1, x[i])
		unifies(t, h, more[0], x[i], true, api.OK)
		b, others := put(t, h, co("d", va(1), va(2), va(2)), -1, y[i])
		unifies(t, h, others[0], y[i], true, api.OK)
		x, y = append(x, a), append(y, b)
	}
	_, before, _ := h.Used()
	unifies(t, h, x[500], y[500], true, api.OK)
	_, after, _ := h.Used()
	if after != before+1 {
		t.Errorf("%d notes", after-before)
	}
	untaken(t, h, x[400], api.ErrLong)
	unifies(t, h, x[499], y[500], false, api.OK)
	unifies(t, h, x[500], y[0], false, api.OK)
}

// P13.1: terms as deep as a heap goes, and variables that speak of one another in a row as long.
func TestDeep(t *testing.T) {
	h := heap.New(65536, 65536)
	var tops [2]int
	leaf, _ := put(t, h, va(1))
	for i := range tops {
		tops[i] = leaf
		for range 300 {
			tops[i], _ = put(t, h, tower(va(1), 99), tops[i])
		}
	}
	unifies(t, h, tops[0], tops[1], true, api.OK)
	used(t, h, 60001, 0, 0)
	unifies(t, h, tops[0], leaf, false, api.OK)
	unifies(t, h, tops[0]+1, tops[1], false, api.OK)
	used(t, h, 60001, 0, 0)
	untaken(t, h, tops[0], api.ErrLong)

	h = heap.New(65536, 65536)
	_, row := put(t, h, va(1))
	for range 60000 {
		a, _ := put(t, h, va(1))
		row = append(row, a)
	}
	for i := len(row) - 1; i > 0; i-- {
		unifies(t, h, row[i], row[i-1], true, api.OK)
	}
	used(t, h, 60001, 60000, 0)
	last := row[len(row)-1]
	takes(t, h, last, va(1))
	a, _ := put(t, h, co("s", va(1)), last)
	takes(t, h, a, co("s", va(1)))
	unifies(t, h, last, a, false, api.OK)
	b, _ := put(t, h, nu(5))
	unifies(t, h, last, b, true, api.OK)
	takes(t, h, row[0], nu(5))
	takes(t, h, a, co("s", nu(5)))
}

// P13.1: a row of variables that become the same in one call, in whatever order.
func TestRow(t *testing.T) {
	r := rand.New(rand.NewSource(133))
	for range 200 {
		h := heap.New(10000, 1000)
		n := 2 + r.Intn(30)
		var left, right []api.Term
		for _, i := range r.Perm(n - 1) {
			left, right = append(left, va(int64(i)+1)), append(right, va(int64(i)+2))
		}
		for i := range left {
			if r.Intn(2) == 0 {
				left[i], right[i] = right[i], left[i]
			}
		}
		a, b := left[0], right[0]
		for i := range left[1:] {
			a, b = co("r", a, left[i+1]), co("r", right[i+1], b)
			if r.Intn(2) == 0 {
				a, b = co("r", a.Args[1], a.Args[0]), co("r", b.Args[0], b.Args[1])
			} else {
				b = co("r", b.Args[1], b.Args[0])
			}
		}
		x, env := put(t, h, a)
		y, env := put(t, h, b, env...)
		unifies(t, h, x, y, true, api.OK)
		_, notes, _ := h.Used()
		least := slices.Min(slices.DeleteFunc(slices.Clone(env), func(s int) bool { return s < 0 }))
		if notes != n-1 {
			t.Fatalf("%s, %s: %d notes", text(a), text(b), notes)
		}
		for _, s := range env {
			takes(t, h, s, va(int64(least)+1))
		}
	}
}
