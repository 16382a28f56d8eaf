package heap_test

import (
	"math"
	"slices"
	"strings"
	"testing"

	"pythia/api"
	"pythia/heap"
)

// P13.1: the chapter's example.
func TestExample(t *testing.T) {
	h := heap.New(100, 100)
	used(t, h, 0, 0, 0)
	puts(t, h, co("f", va(1), va(2)), nil, 0, 1, 2)
	used(t, h, 3, 0, 0)
	puts(t, h, co("f", at("a"), va(1)), []int{-1}, 3, 5)
	used(t, h, 6, 0, 0)
	unifies(t, h, 0, 3, true, api.OK)
	takes(t, h, 0, co("f", at("a"), va(3)))
	takes(t, h, 3, co("f", at("a"), va(3)))
	_, notes, _ := h.Used()
	if m := h.Mark(); m != 1 {
		t.Errorf("mark %d", m)
	}
	puts(t, h, at("b"), nil, 6)
	unifies(t, h, 6, 2, true, api.OK)
	takes(t, h, 3, co("f", at("a"), at("b")))
	if e := h.Undo(1); e != api.OK {
		t.Errorf("Undo = %d", e)
	}
	used(t, h, 6, notes, 1)
	takes(t, h, 0, co("f", at("a"), va(3)))
	untaken(t, h, 6, api.ErrArg)
}

// P13.1, P13.2: what variables stand for.
func TestEnv(t *testing.T) {
	h := heap.New(1000, 10)
	puts(t, h, co("f", va(2), va(2), va(4)), nil, 0, -1, 1, -1, 3)
	takes(t, h, 0, co("f", va(2), va(2), va(4)))
	takes(t, h, 1, va(2))
	takes(t, h, 2, va(2))
	takes(t, h, 3, va(4))
	puts(t, h, at("a"), nil, 4)
	puts(t, h, nu(7), []int{}, 5)
	puts(t, h, at("a"), []int{-1, 3, -5, math.MinInt}, 6, -1, 3, -1, -1)
	puts(t, h, co("g", va(1), va(3), va(2)), []int{0, 4}, 7, 0, 4, 9)
	takes(t, h, 7, co("g", co("f", va(2), va(2), va(4)), va(10), at("a")))
	takes(t, h, 8, co("f", va(2), va(2), va(4)))
	puts(t, h, co("g", va(3), va(1)), []int{3, -1, 1, 0, 5}, 11, 3, -1, 1, 0, 5)
	takes(t, h, 11, co("g", va(2), va(4)))
	puts(t, h, va(1), []int{12}, 14, 12)
	takes(t, h, 14, va(2))
	puts(t, h, va(1), []int{-7}, 15, 15)
	takes(t, h, 15, va(16))
	puts(t, h, va(3), []int{math.MinInt, 2}, 16, -1, 2, 16)
	used(t, h, 17, 0, 0)
	a, stands := put(t, h, va(2000))
	if a != 17 || len(stands) != 2000 || stands[1999] != 17 || slices.IndexFunc(stands, func(s int) bool { return s != -1 }) != 1999 {
		t.Errorf("X2000 at %d: %v", a, stands)
	}
	full := slices.Repeat([]int{-3}, 2000)
	full[9] = 3
	_, stands = put(t, h, co("f", va(10), va(7)), full...)
	if len(stands) != 2000 || stands[9] != 3 || stands[6] != 20 || stands[0] != -1 || stands[1999] != -1 {
		t.Errorf("2000 places: %v", stands)
	}
	takes(t, h, 18, co("f", va(4), va(21)))
}

// P13.1: a variable stands for what its address has become, too.
func TestEnvBound(t *testing.T) {
	h := heap.New(1000, 100)
	_, stands := put(t, h, co("f", va(1), va(2)))
	a, _ := put(t, h, co("g", nu(1)))
	unifies(t, h, stands[0], a, true, api.OK)
	m := h.Mark()
	unifies(t, h, stands[1], stands[0], true, api.OK)
	b, again := put(t, h, co("h", va(1), va(2), va(2)), stands...)
	if !slices.Equal(again, stands) {
		t.Errorf("%v, not %v", again, stands)
	}
	takes(t, h, b, co("h", co("g", nu(1)), co("g", nu(1)), co("g", nu(1))))
	h.Undo(m)
	c, _ := put(t, h, co("h", va(1), va(2)), stands...)
	takes(t, h, c, co("h", co("g", nu(1)), va(int64(stands[1])+1)))
	unifies(t, h, stands[1], c+1, true, api.OK)
	takes(t, h, c, co("h", co("g", nu(1)), co("g", nu(1))))
}

// P13.1, P13.2: Put's errors, in their order.
func TestPutErrors(t *testing.T) {
	h := heap.New(10, 10)
	put(t, h, co("f", va(1), at("a")))
	long := slices.Repeat([]int{-1}, 2001)
	for _, w := range wrong() {
		for _, env := range [][]int{nil, {0}, {99}, long} {
			unput(t, h, api.ErrTerm, w, env...)
		}
	}
	unput(t, h, api.ErrTerm, co("f", va(2001), va(0)))
	unput(t, h, api.ErrArg, va(2001))
	unput(t, h, api.ErrArg, va(math.MaxInt64))
	unput(t, h, api.ErrArg, co("f", va(1), co("g", va(1<<32+1))))
	unput(t, h, api.ErrArg, va(1<<33), 0)
	unput(t, h, api.ErrArg, at("a"), long...)
	unput(t, h, api.ErrArg, va(1), 3)
	unput(t, h, api.ErrArg, va(1), math.MaxInt)
	unput(t, h, api.ErrArg, co("f", va(1), va(2)), 0, 3)
	unput(t, h, api.ErrArg, co("f", va(2), va(1)), -1, 4)
	// with room for nothing more, too
	unput(t, h, api.ErrArg, sized(100, va(2001)))
	unput(t, h, api.ErrArg, sized(100, va(1)), 3)
	unput(t, h, api.ErrArg, sized(100, at("a")), long...)
	unput(t, h, api.ErrHeap, sized(100, at("a")))
	unput(t, h, api.ErrHeap, sized(8, at("a")))
	unput(t, h, api.ErrHeap, sized(8, va(1)), 2)
	// what no variable of the term stands for is no variable's address
	puts(t, h, va(1), []int{2, 99}, 3, 2, 99)
	puts(t, h, sized(6, at("a")), nil, 4)
	used(t, h, 10, 0, 0)
	unput(t, h, api.ErrHeap, at("a"))
	unput(t, h, api.ErrHeap, va(1))
	unput(t, h, api.ErrHeap, va(1), 0)
	unput(t, h, api.ErrArg, va(1), 10)
	takes(t, h, 0, co("f", va(2), at("a")))
}

// P13.2: a Put takes a cell for each symbol: with so many it goes, with one fewer it doesn't.
func TestJustRoom(t *testing.T) {
	for _, u := range []api.Term{at("a"), nu(1), va(1), co("f", at("a")), co("f", va(1), va(1), va(1)), tower(at("a"), 99), sized(2000, va(7)), sized(2000, nu(-1)), co("f", slices.Repeat([]api.Term{co("g", va(1))}, 8)...)} {
		size := 1
		for todo := []api.Term{u}; len(todo) > 0; todo = todo[1:] {
			todo, size = append(todo, todo[0].Args...), size+len(todo[0].Args)
		}
		h := heap.New(size, 0)
		a, _ := put(t, h, u)
		used(t, h, size, 0, 0)
		if got, e := h.Take(a); a != 0 || e != api.OK || got.Kind != u.Kind || len(got.Args) != len(u.Args) {
			t.Errorf("%.100s is taken as %.100s, %d", text(u), text(got), e)
		}
		unput(t, h, api.ErrHeap, at("a"))
		h = heap.New(size-1, 0)
		unput(t, h, api.ErrHeap, u)
		untaken(t, h, 0, api.ErrArg)
		h = heap.New(size+3, 0)
		put(t, h, co("s", at("a")))
		put(t, h, at("b"))
		a, _ = put(t, h, u)
		if a != 3 {
			t.Errorf("%.100s is at %d", text(u), a)
		}
		used(t, h, size+3, 0, 0)
	}
}

// P13.1: limits below 0 and above MaxHeap.
func TestLimits(t *testing.T) {
	for _, none := range []int{0, -1, math.MinInt} {
		h := heap.New(none, none)
		unput(t, h, api.ErrHeap, at("a"))
		untaken(t, h, 0, api.ErrArg)
		h = heap.New(100, none)
		_, stands := put(t, h, va(1))
		a, _ := put(t, h, at("a"))
		unifies(t, h, a, a, true, api.OK)
		unifies(t, h, stands[0], stands[0], true, api.OK)
		unifies(t, h, a, stands[0], false, api.ErrTrail)
		takes(t, h, 0, va(1))
		used(t, h, 2, 0, 0)
	}
	for _, many := range []int{65536, 65537, math.MaxInt} {
		h := heap.New(many, many)
		great := sized(2000, va(1))
		for range 32 {
			put(t, h, great)
		}
		a, _ := put(t, h, sized(1536, at("a")))
		used(t, h, 65536, 0, 0)
		unput(t, h, api.ErrHeap, at("a"))
		takes(t, h, a, sized(1536, at("a")))
		takes(t, h, 65535, at("a"))
		untaken(t, h, 65536, api.ErrArg)
	}
	h := heap.New(65535, 65535)
	for range 32 {
		put(t, h, sized(2000, at("a")))
	}
	unput(t, h, api.ErrHeap, sized(1536, at("a")))
	put(t, h, sized(1535, at("a")))
}

// P13.1: terms at each address, and addresses that there aren't.
func TestTake(t *testing.T) {
	h := heap.New(100, 100)
	long := strings.Repeat("x", 64)
	u := co("f", co("g", va(3), nu(math.MinInt64)), at(""), co(long, co("h", va(1)), va(3)), at(long))
	a, stands := put(t, h, untidy(u))
	want := co("f", co("g", va(3), nu(math.MinInt64)), at(""), co(long, co("h", va(8)), va(3)), at(long))
	takes(t, h, a, want)
	if !slices.Equal(stands, []int{7, -1, 2}) {
		t.Errorf("%v", stands)
	}
	for at, part := range []api.Term{want, want.Args[0], va(3), nu(math.MinInt64), at(""), want.Args[2], co("h", va(8)), va(8), va(3), at(long)} {
		takes(t, h, at, part)
	}
	for _, none := range []int{-1, 10, 11, math.MinInt, math.MaxInt} {
		untaken(t, h, none, api.ErrArg)
		unifies(t, h, none, 0, false, api.ErrArg)
		unifies(t, h, 0, none, false, api.ErrArg)
		unifies(t, h, none, none, false, api.ErrArg)
	}
	used(t, h, 10, 0, 0)
}

// P13.1: terms that have become too long, by their depth and by their symbols.
func TestTooLong(t *testing.T) {
	h := heap.New(10000, 100)
	a, stands := put(t, h, tower(va(1), 60))
	b, more := put(t, h, tower(va(1), 39))
	unifies(t, h, stands[0], b, true, api.OK)
	takes(t, h, a, tower(va(int64(more[0])+1), 99))
	m := h.Mark()
	c, _ := put(t, h, co("s", at("a")))
	unifies(t, h, more[0], c, true, api.OK)
	untaken(t, h, a, api.ErrLong)
	takes(t, h, a+1, tower(at("a"), 99))
	d, _ := put(t, h, co("f", va(1)), a)
	untaken(t, h, d, api.ErrLong)
	h.Undo(m)
	takes(t, h, a, tower(va(int64(more[0])+1), 99))

	e, stands := put(t, h, co("f", sized(1001, at("a")), va(1)))
	f, more := put(t, h, co("w", sized(996, at("b")), va(1)))
	unifies(t, h, f, stands[0], true, api.OK)
	if got, err := h.Take(e); err != api.OK || !same(got, co("f", sized(1001, at("a")), co("w", sized(996, at("b")), va(int64(more[0])+1)))) {
		t.Errorf("2000 symbols: %d", err)
	}
	g, _ := put(t, h, co("s", at("a")))
	unifies(t, h, g, more[0], true, api.OK)
	untaken(t, h, e, api.ErrLong)
	takes(t, h, f, co("w", sized(996, at("b")), co("s", at("a"))))
}

// P13.1: marks one above the other, and those that there aren't.
func TestMarks(t *testing.T) {
	h := heap.New(100, 100)
	_, stands := put(t, h, co("f", va(1), va(2), va(3)))
	a, _ := put(t, h, at("a"))
	for _, none := range []int{0, 1, -1, math.MinInt, math.MaxInt} {
		if h.Undo(none) != api.ErrArg || h.Keep(none) != api.ErrArg {
			t.Errorf("there is a mark %d", none)
		}
	}
	for i, s := range stands {
		if m := h.Mark(); m != i+1 {
			t.Errorf("mark %d, not %d", m, i+1)
		}
		unifies(t, h, a, s, true, api.OK)
		put(t, h, at("b"))
	}
	used(t, h, 8, 3, 3)
	for _, none := range []int{4, 0, -1, math.MinInt, math.MaxInt} {
		if h.Undo(none) != api.ErrArg || h.Keep(none) != api.ErrArg {
			t.Errorf("there is a mark %d", none)
		}
	}
	used(t, h, 8, 3, 3)
	if e := h.Undo(3); e != api.OK {
		t.Errorf("Undo(3) = %d", e)
	}
	used(t, h, 7, 2, 3)
	takes(t, h, 0, co("f", at("a"), at("a"), va(4)))
	if e := h.Undo(3); e != api.OK {
		t.Errorf("Undo(3) again = %d", e)
	}
	used(t, h, 7, 2, 3)
	if m := h.Mark(); m != 4 {
		t.Errorf("mark %d, not 4", m)
	}
	if e := h.Undo(2); e != api.OK {
		t.Errorf("Undo(2) = %d", e)
	}
	used(t, h, 6, 1, 2)
	takes(t, h, 0, co("f", at("a"), va(3), va(4)))
	if h.Undo(3) != api.ErrArg || h.Keep(3) != api.ErrArg {
		t.Error("there is a mark 3 still")
	}
	unifies(t, h, a, stands[1], true, api.OK)
	h.Mark()
	h.Mark()
	put(t, h, at("c"))
	if e := h.Keep(2); e != api.OK {
		t.Errorf("Keep(2) = %d", e)
	}
	used(t, h, 7, 2, 1)
	takes(t, h, 0, co("f", at("a"), at("a"), va(4)))
	if m := h.Mark(); m != 2 {
		t.Errorf("mark %d, not 2", m)
	}
	h.Keep(2)
	if e := h.Undo(1); e != api.OK {
		t.Errorf("Undo(1) = %d", e)
	}
	used(t, h, 5, 0, 1)
	takes(t, h, 0, co("f", va(2), va(3), va(4)))
	if e := h.Keep(1); e != api.OK || h.Keep(1) != api.ErrArg || h.Undo(1) != api.ErrArg {
		t.Errorf("Keep(1) = %d, or there is a mark 1 still", e)
	}
	used(t, h, 5, 0, 0)
}

// P13.1: marks without an end.
func TestManyMarks(t *testing.T) {
	h := heap.New(10, 10)
	put(t, h, at("a"))
	for i := range 100000 {
		if m := h.Mark(); m != i+1 {
			t.Fatalf("mark %d, not %d", m, i+1)
		}
	}
	put(t, h, at("a"))
	if e := h.Undo(50000); e != api.OK {
		t.Errorf("Undo = %d", e)
	}
	used(t, h, 1, 0, 50000)
	if e := h.Keep(2); e != api.OK {
		t.Errorf("Keep = %d", e)
	}
	used(t, h, 1, 0, 1)
}
