package cells_test

import (
	"math"
	"testing"

	"pythia/api"
	"pythia/cells"
)

// alloc makes a block that must have a number.
func alloc(t *testing.T, a *cells.Arena, n, want int) {
	t.Helper()
	if b, e := a.Alloc(n); b != want || e != api.OK {
		t.Fatalf("Alloc(%d) = %d, %d, not %d", n, b, e, want)
	}
}

// refuse asks for a block that must not be had.
func refuse(t *testing.T, a *cells.Arena, n int, want api.Errno) {
	t.Helper()
	if b, e := a.Alloc(n); b != 0 || e != want {
		t.Fatalf("Alloc(%d) = %d, %d, not 0, %d", n, b, e, want)
	}
}

// holds looks at a cell.
func holds(t *testing.T, a *cells.Arena, b, i int, want int64) {
	t.Helper()
	if v, e := a.Load(b, i); v != want || e != api.OK {
		t.Fatalf("Load(%d, %d) = %d, %d, not %d", b, i, v, e, want)
	}
}

// counts looks at what an arena counts.
func counts(t *testing.T, a *cells.Arena, blocks, live, made, faults int) {
	t.Helper()
	n, m := a.Live()
	if n != blocks || m != live || a.Made() != made || a.Faults() != faults {
		t.Fatalf("Live %d, %d, Made %d, Faults %d, not %d, %d, %d, %d", n, m, a.Made(), a.Faults(), blocks, live, made, faults)
	}
}

// P2.1: the chapter's example.
func TestExample(t *testing.T) {
	a := cells.New(4)
	counts(t, a, 0, 0, 0, 0)
	alloc(t, a, 3, 1)
	refuse(t, a, 2, api.ErrFull)
	if ok, e := a.Swap(1, 0, 0, 7); !ok || e != api.OK {
		t.Fatalf("Swap = %v, %d", ok, e)
	}
	if v, e := a.Add(1, 0, -2); v != 5 || e != api.OK {
		t.Fatalf("Add = %d, %d", v, e)
	}
	if e := a.Free(1); e != api.OK {
		t.Fatalf("Free = %d", e)
	}
	if v, e := a.Load(1, 0); v != 0 || e != api.ErrFreed {
		t.Fatalf("Load = %d, %d", v, e)
	}
	alloc(t, a, 2, 2)
	counts(t, a, 1, 2, 2, 1)
}

// P2.1: how many cells an arena may have is clamped.
func TestMost(t *testing.T) {
	for _, most := range []int{math.MinInt, -1, 0} {
		a := cells.New(most)
		refuse(t, a, 1, api.ErrFull)
		counts(t, a, 0, 0, 0, 0)
	}
	for _, most := range []int{api.MaxCells, api.MaxCells + 1, math.MaxInt} {
		a := cells.New(most)
		for i := range api.MaxCells / api.MaxBlock {
			alloc(t, a, api.MaxBlock, i+1)
		}
		refuse(t, a, 1, api.ErrFull)
		counts(t, a, api.MaxCells/api.MaxBlock, api.MaxCells, api.MaxCells/api.MaxBlock, 0)
	}
	a := cells.New(api.MaxCells - 1)
	for i := range api.MaxCells/api.MaxBlock - 1 {
		alloc(t, a, api.MaxBlock, i+1)
	}
	refuse(t, a, api.MaxBlock, api.ErrFull)
	alloc(t, a, api.MaxBlock-1, api.MaxCells/api.MaxBlock)
}

// P2.1: a block's size has its range, which is looked at ahead of the room.
func TestAllocRange(t *testing.T) {
	a := cells.New(api.MaxBlock)
	for _, n := range []int{math.MinInt, -1, 0, api.MaxBlock + 1, math.MaxInt} {
		refuse(t, a, n, api.ErrArg)
	}
	alloc(t, a, api.MaxBlock, 1)
	for _, n := range []int{math.MinInt, -1, 0, api.MaxBlock + 1, math.MaxInt} {
		refuse(t, a, n, api.ErrArg)
	}
	refuse(t, a, 1, api.ErrFull)
	counts(t, a, 1, api.MaxBlock, 1, 0)
	if n, e := a.Size(1); n != api.MaxBlock || e != api.OK {
		t.Errorf("Size = %d, %d", n, e)
	}
}

// P2.1: numbers rise by one for each block that was made, and no refusal takes one.
func TestNumbers(t *testing.T) {
	a := cells.New(3)
	alloc(t, a, 1, 1)
	refuse(t, a, 0, api.ErrArg)
	refuse(t, a, 3, api.ErrFull)
	alloc(t, a, 2, 2)
	if e := a.Free(2); e != api.OK {
		t.Fatal(e)
	}
	alloc(t, a, 1, 3)
	if e := a.Free(1); e != api.OK {
		t.Fatal(e)
	}
	alloc(t, a, 2, 4)
	counts(t, a, 2, 3, 4, 0)
}

// P2.1: cells that there aren't are ErrArg, are no fault, and change nothing.
func TestNoSuchCell(t *testing.T) {
	a := cells.New(10)
	alloc(t, a, 3, 1)
	alloc(t, a, 3, 2)
	for _, i := range []int{math.MinInt, -1, 3, 4, math.MaxInt} {
		if v, e := a.Load(1, i); v != 0 || e != api.ErrArg {
			t.Errorf("Load(1, %d) = %d, %d", i, v, e)
		}
		if e := a.Store(1, i, 5); e != api.ErrArg {
			t.Errorf("Store(1, %d) = %d", i, e)
		}
		if ok, e := a.Swap(1, i, 0, 5); ok || e != api.ErrArg {
			t.Errorf("Swap(1, %d) = %v, %d", i, ok, e)
		}
		if v, e := a.Add(1, i, 5); v != 0 || e != api.ErrArg {
			t.Errorf("Add(1, %d) = %d, %d", i, v, e)
		}
	}
	for b := 1; b <= 2; b++ {
		for i := range 3 {
			holds(t, a, b, i, 0)
		}
	}
	counts(t, a, 2, 6, 2, 0)
}

// P2.1: Store, Swap and Add, at the ends of the numbers' range too.
func TestCells(t *testing.T) {
	a := cells.New(2)
	alloc(t, a, 2, 1)
	for _, v := range []int64{1, -1, math.MaxInt64, math.MinInt64, 0} {
		if e := a.Store(1, 1, v); e != api.OK {
			t.Fatalf("Store = %d", e)
		}
		holds(t, a, 1, 1, v)
		if ok, e := a.Swap(1, 1, v+1, 77); ok || e != api.OK {
			t.Fatalf("Swap of another = %v, %d", ok, e)
		}
		holds(t, a, 1, 1, v)
		if ok, e := a.Swap(1, 1, v, v); !ok || e != api.OK {
			t.Fatalf("Swap for the same = %v, %d", ok, e)
		}
		if ok, e := a.Swap(1, 1, v, 77); !ok || e != api.OK {
			t.Fatalf("Swap = %v, %d", ok, e)
		}
		holds(t, a, 1, 1, 77)
	}
	sums := []struct{ from, by, to int64 }{
		{5, 0, 5}, {5, -7, -2}, {math.MaxInt64, 1, math.MinInt64}, {math.MinInt64, -1, math.MaxInt64}, {math.MinInt64, math.MinInt64, 0}, {math.MaxInt64, math.MaxInt64, -2},
	}
	for _, s := range sums {
		if e := a.Store(1, 1, s.from); e != api.OK {
			t.Fatal(e)
		}
		if v, e := a.Add(1, 1, s.by); v != s.to || e != api.OK {
			t.Errorf("%d + %d = %d, %d", s.from, s.by, v, e)
		}
		holds(t, a, 1, 1, s.to)
	}
	holds(t, a, 1, 0, 0)
}

// P2.1: of two threads that add one by reading and swapping, one is too late.
func TestTwoThreads(t *testing.T) {
	a := cells.New(1)
	alloc(t, a, 1, 1)
	mine, _ := a.Load(1, 0)
	yours, _ := a.Load(1, 0)
	if ok, e := a.Swap(1, 0, mine, mine+1); !ok || e != api.OK {
		t.Errorf("the first Swap = %v, %d", ok, e)
	}
	if ok, e := a.Swap(1, 0, yours, yours+1); ok || e != api.OK {
		t.Errorf("the second Swap = %v, %d", ok, e)
	}
	holds(t, a, 1, 0, 1)
}

// gone makes every call on a block that there isn't, at a cell, and counts the faults.
func gone(t *testing.T, a *cells.Arena, b, i int) {
	t.Helper()
	n, m := a.Live()
	made, faults := a.Made(), a.Faults()
	if e := a.Free(b); e != api.ErrFreed {
		t.Errorf("Free(%d) = %d", b, e)
	}
	if v, e := a.Load(b, i); v != 0 || e != api.ErrFreed {
		t.Errorf("Load(%d, %d) = %d, %d", b, i, v, e)
	}
	if e := a.Store(b, i, 3); e != api.ErrFreed {
		t.Errorf("Store(%d, %d) = %d", b, i, e)
	}
	if ok, e := a.Swap(b, i, 0, 3); ok || e != api.ErrFreed {
		t.Errorf("Swap(%d, %d) = %v, %d", b, i, ok, e)
	}
	if v, e := a.Add(b, i, 3); v != 0 || e != api.ErrFreed {
		t.Errorf("Add(%d, %d) = %d, %d", b, i, v, e)
	}
	if v, e := a.Size(b); v != 0 || e != api.ErrFreed {
		t.Errorf("Size(%d) = %d, %d", b, v, e)
	}
	counts(t, a, n, m, made, faults+6)
}

// P2.1 and P2.2: what was never made, or is freed, is told by every call, ahead of a wrong cell.
func TestFreed(t *testing.T) {
	a := cells.New(20)
	alloc(t, a, 2, 1)
	alloc(t, a, 2, 2)
	if e := a.Store(2, 0, 9); e != api.OK {
		t.Fatal(e)
	}
	if e := a.Store(1, 0, 8); e != api.OK {
		t.Fatal(e)
	}
	if e := a.Free(1); e != api.OK {
		t.Fatal(e)
	}
	counts(t, a, 1, 2, 2, 0)
	for _, b := range []int{1, 0, -1, 3, math.MaxInt, math.MinInt} {
		for _, i := range []int{0, 1, -1, 2, math.MaxInt} {
			gone(t, a, b, i)
		}
	}
	holds(t, a, 2, 0, 9)
	alloc(t, a, 2, 3)
	holds(t, a, 3, 0, 0)
	gone(t, a, 1, 0)
	holds(t, a, 3, 0, 0)
}

// P2.3: cells that were freed can be had again, however they lay, and are 0 then.
func TestRoomComesBack(t *testing.T) {
	a := cells.New(8)
	for b := 1; b <= 8; b++ {
		alloc(t, a, 1, b)
		if e := a.Store(b, 0, int64(b)); e != api.OK {
			t.Fatal(e)
		}
	}
	for b := 1; b <= 8; b += 2 {
		refuse(t, a, (b+1)/2, api.ErrFull)
		if e := a.Free(b); e != api.OK {
			t.Fatal(e)
		}
	}
	refuse(t, a, 5, api.ErrFull)
	alloc(t, a, 4, 9)
	for i := range 4 {
		holds(t, a, 9, i, 0)
	}
	for b := 2; b <= 8; b += 2 {
		holds(t, a, b, 0, int64(b))
	}
	counts(t, a, 5, 8, 9, 0)
}

// P2.3: an arena may make far more blocks, one behind the other, than it has room for at a time.
func TestRoomForEver(t *testing.T) {
	a := cells.New(api.MaxBlock)
	const rounds = 3 * api.MaxCells / api.MaxBlock
	for b := 1; b <= rounds; b++ {
		alloc(t, a, api.MaxBlock, b)
		holds(t, a, b, b%api.MaxBlock, 0)
		if e := a.Store(b, b%api.MaxBlock, -1); e != api.OK {
			t.Fatal(e)
		}
		if e := a.Free(b); e != api.OK {
			t.Fatal(e)
		}
	}
	counts(t, a, 0, 0, rounds, 0)
	gone(t, a, 1, 0)
	gone(t, a, rounds, 0)
}

// P2.2: two arenas have nothing in common.
func TestTwoArenas(t *testing.T) {
	a, b := cells.New(5), cells.New(5)
	alloc(t, a, 2, 1)
	gone(t, b, 1, 0)
	alloc(t, b, 3, 1)
	if e := a.Store(1, 0, 4); e != api.OK {
		t.Fatal(e)
	}
	holds(t, b, 1, 0, 0)
	if e := b.Free(1); e != api.OK {
		t.Fatal(e)
	}
	holds(t, a, 1, 0, 4)
	counts(t, a, 1, 2, 1, 0)
	counts(t, b, 0, 0, 1, 6)
}
