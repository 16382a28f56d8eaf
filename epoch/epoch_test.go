package epoch_test

import (
	"slices"
	"testing"

	"pythia/api"
	"pythia/cells"
	"pythia/epoch"
)

// yard makes an arena with so many blocks, and a yard over it.
func yard(t *testing.T, blocks, threads, bound int) (*cells.Arena, *epoch.Yard) {
	t.Helper()
	a := cells.New(api.MaxCells)
	for range blocks {
		if _, e := a.Alloc(1); e != api.OK {
			t.Fatalf("Alloc = %d", e)
		}
	}
	return a, epoch.New(a, threads, bound)
}

// want holds what a call answered against what it should.
func want(t *testing.T, what string, got, want api.Errno) {
	t.Helper()
	if got != want {
		t.Fatalf("%s = %d, not %d", what, got, want)
	}
}

// waits looks at the blocks that wait, which must be live.
func waits(t *testing.T, a *cells.Arena, y *epoch.Yard, blocks ...int) {
	t.Helper()
	if got := y.Waiting(); !slices.Equal(got, blocks) {
		t.Fatalf("Waiting = %v, not %v", got, blocks)
	}
	for _, b := range blocks {
		if n, e := a.Size(b); n != 1 || e != api.OK {
			t.Fatalf("block %d waits, and Size is %d, %d", b, n, e)
		}
	}
}

// sweeps frees what may be freed.
func sweeps(t *testing.T, y *epoch.Yard, n int) {
	t.Helper()
	if got := y.Sweep(); got != n {
		t.Fatalf("Sweep = %d, not %d", got, n)
	}
}

// P4.1, P4.2: the chapter's example.
func TestExample(t *testing.T) {
	a, y := yard(t, 5, 2, 4)
	want(t, "Enter(1)", y.Enter(1), api.OK)
	want(t, "Retire(2, 5)", y.Retire(2, 5), api.OK)
	sweeps(t, y, 0)
	waits(t, a, y, 5)
	want(t, "Enter(2)", y.Enter(2), api.OK)
	want(t, "Leave(1)", y.Leave(1), api.OK)
	sweeps(t, y, 1)
	waits(t, a, y)
	if _, e := a.Load(5, 0); e != api.ErrFreed {
		t.Errorf("Load(5, 0): %d: the block isn't freed", e)
	}
}

// P4.1: a new yard, whose numbers are clamped.
func TestNew(t *testing.T) {
	for _, c := range []struct{ threads, are int }{{-1 << 63, 1}, {-1, 1}, {0, 1}, {1, 1}, {2, 2}, {8, 8}, {9, 8}, {1<<63 - 1, 8}} {
		_, y := yard(t, 0, c.threads, 1)
		for _, n := range []int{-1 << 63, -1, 0, c.are + 1, 9, 1<<63 - 1} {
			want(t, "Enter of no thread", y.Enter(n), api.ErrArg)
			want(t, "Leave of no thread", y.Leave(n), api.ErrArg)
			want(t, "Retire by no thread", y.Retire(n, 1), api.ErrArg)
			if got := y.Limbo(n); got != 0 {
				t.Errorf("Limbo(%d) = %d", n, got)
			}
		}
		for n := 1; n <= c.are; n++ {
			want(t, "Enter", y.Enter(n), api.OK)
		}
		if got := y.Inside(); len(got) != c.are || !slices.IsSorted(got) {
			t.Errorf("Inside = %v, not 1 to %d", got, c.are)
		}
	}
	for _, c := range []struct{ bound, is int }{{-1 << 63, 0}, {-1, 0}, {0, 0}, {1, 1}, {64, 64}, {65, 64}, {1<<63 - 1, 64}} {
		a, y := yard(t, 0, 1, c.bound)
		if y.Bound() != c.is || len(y.Waiting()) != 0 || len(y.Inside()) != 0 || y.Sweep() != 0 {
			t.Errorf("New(_, %d): Bound %d, Waiting %v, Inside %v", c.bound, y.Bound(), y.Waiting(), y.Inside())
		}
		if n, m := a.Live(); n != 0 || m != 0 {
			t.Errorf("New took %d blocks, %d cells", n, m)
		}
	}
}

// P4.1: in and out.
func TestInside(t *testing.T) {
	_, y := yard(t, 0, 3, 1)
	want(t, "Leave(1)", y.Leave(1), api.ErrOutside)
	want(t, "Enter(3)", y.Enter(3), api.OK)
	want(t, "Enter(3)", y.Enter(3), api.ErrInside)
	want(t, "Enter(1)", y.Enter(1), api.OK)
	want(t, "Leave(2)", y.Leave(2), api.ErrOutside)
	if got := y.Inside(); !slices.Equal(got, []int{1, 3}) {
		t.Errorf("Inside = %v", got)
	}
	want(t, "Leave(3)", y.Leave(3), api.OK)
	want(t, "Leave(3)", y.Leave(3), api.ErrOutside)
	want(t, "Enter(3)", y.Enter(3), api.OK)
	want(t, "Leave(1)", y.Leave(1), api.OK)
	if got := y.Inside(); !slices.Equal(got, []int{3}) {
		t.Errorf("Inside = %v", got)
	}
}

// P4.1: Retire's errors, each ahead of those behind it, and how many faults are counted.
func TestRetireErrors(t *testing.T) {
	a, y := yard(t, 4, 2, 1)
	want(t, "Enter(1)", y.Enter(1), api.OK)
	want(t, "Retire(1, 2)", y.Retire(1, 2), api.OK)
	want(t, "Retire(3, 2)", y.Retire(3, 2), api.ErrArg)
	want(t, "Retire(0, 99)", y.Retire(0, 99), api.ErrArg)
	want(t, "Retire(1, 2)", y.Retire(1, 2), api.ErrTwice)
	want(t, "Retire(2, 2)", y.Retire(2, 2), api.ErrTwice)
	if n := a.Faults(); n != 0 {
		t.Fatalf("%d faults", n)
	}
	for i, b := range []int{-1 << 63, -1, 0, 5, 1<<63 - 1} {
		want(t, "Retire(1, no block)", y.Retire(1, b), api.ErrFreed)
		if n := a.Faults(); n != i+1 {
			t.Fatalf("%d faults behind %d", n, i+1)
		}
	}
	want(t, "Free(3)", a.Free(3), api.OK)
	want(t, "Retire(2, 3)", y.Retire(2, 3), api.ErrFreed)
	want(t, "Retire(1, 4)", y.Retire(1, 4), api.ErrLimbo)
	want(t, "Retire(2, 4)", y.Retire(2, 4), api.OK)
	waits(t, a, y, 2, 4)
	if n := a.Faults(); n != 6 {
		t.Errorf("%d faults, not 6", n)
	}
}

// P4.1: what was swept away can be retired no more: it is freed, and not waiting.
func TestRetireAgain(t *testing.T) {
	a, y := yard(t, 2, 1, 4)
	want(t, "Retire(1, 1)", y.Retire(1, 1), api.OK)
	waits(t, a, y, 1)
	sweeps(t, y, 1)
	want(t, "Retire(1, 1)", y.Retire(1, 1), api.ErrFreed)
	waits(t, a, y)
	if n := a.Faults(); n != 1 {
		t.Errorf("%d faults, not 1", n)
	}
}

// P4.1: Retire frees what it may ahead of counting, whether or not it goes well then; a Retire that fails earlier frees nothing.
func TestRetireFrees(t *testing.T) {
	a, y := yard(t, 6, 2, 2)
	want(t, "Retire(1, 3)", y.Retire(1, 3), api.OK)
	waits(t, a, y, 3)
	want(t, "Retire(1, 3)", y.Retire(1, 3), api.ErrTwice)
	want(t, "Retire(1, 99)", y.Retire(1, 99), api.ErrFreed)
	want(t, "Retire(9, 1)", y.Retire(9, 1), api.ErrArg)
	waits(t, a, y, 3)
	want(t, "Enter(2)", y.Enter(2), api.OK)
	want(t, "Retire(1, 1)", y.Retire(1, 1), api.OK)
	waits(t, a, y, 1)
	want(t, "Retire(1, 2)", y.Retire(1, 2), api.OK)
	waits(t, a, y, 1, 2)
	want(t, "Retire(1, 4)", y.Retire(1, 4), api.ErrLimbo)
	want(t, "Retire(2, 4)", y.Retire(2, 4), api.OK)
	waits(t, a, y, 1, 2, 4)
	want(t, "Leave(2)", y.Leave(2), api.OK)
	want(t, "Retire(1, 5)", y.Retire(1, 5), api.OK)
	waits(t, a, y, 5)

	a, y = yard(t, 4, 2, 0)
	want(t, "Retire(1, 1)", y.Retire(1, 1), api.ErrLimbo)
	waits(t, a, y)
}

// P4.1: a Retire that is refused for want of bound has freed what it might nevertheless.
func TestLimboFrees(t *testing.T) {
	a, y := yard(t, 6, 3, 1)
	want(t, "Retire(2, 6)", y.Retire(2, 6), api.OK)
	want(t, "Enter(1)", y.Enter(1), api.OK)
	want(t, "Retire(1, 1)", y.Retire(1, 1), api.OK)
	want(t, "Enter(2)", y.Enter(2), api.OK)
	want(t, "Retire(3, 2)", y.Retire(3, 2), api.OK)
	want(t, "Leave(1)", y.Leave(1), api.OK)
	waits(t, a, y, 1, 2)
	want(t, "Retire(3, 3)", y.Retire(3, 3), api.ErrLimbo)
	waits(t, a, y, 2)
	if blocks, _ := a.Live(); blocks != 4 {
		t.Errorf("%d blocks are live, not 4", blocks)
	}
}

// P4.2: who was inside when a block was retired holds it, whoever else comes and goes; who came in later, or has left and come back, doesn't.
func TestHeld(t *testing.T) {
	a, y := yard(t, 3, 3, 8)
	want(t, "Enter(1)", y.Enter(1), api.OK)
	want(t, "Enter(2)", y.Enter(2), api.OK)
	want(t, "Retire(1, 3)", y.Retire(1, 3), api.OK)
	want(t, "Leave(2)", y.Leave(2), api.OK)
	want(t, "Retire(2, 1)", y.Retire(2, 1), api.OK)
	want(t, "Enter(2)", y.Enter(2), api.OK)
	want(t, "Enter(3)", y.Enter(3), api.OK)
	sweeps(t, y, 0)
	want(t, "Retire(3, 2)", y.Retire(3, 2), api.OK)
	waits(t, a, y, 3, 1, 2)
	want(t, "Leave(1)", y.Leave(1), api.OK)
	want(t, "Enter(1)", y.Enter(1), api.OK)
	waits(t, a, y, 3, 1, 2)
	sweeps(t, y, 2)
	waits(t, a, y, 2)
	want(t, "Leave(2)", y.Leave(2), api.OK)
	sweeps(t, y, 0)
	want(t, "Leave(3)", y.Leave(3), api.OK)
	waits(t, a, y, 2)
	sweeps(t, y, 1)
	waits(t, a, y)
	if n := a.Faults(); n != 0 {
		t.Errorf("%d faults", n)
	}
}

// P4.3: the bound holds for each thread by itself, up to the greatest.
func TestBound(t *testing.T) {
	for _, bound := range []int{0, 1, 3, api.MaxLimbo} {
		a, y := yard(t, 3*(bound+1), 3, bound)
		want(t, "Enter(3)", y.Enter(3), api.OK)
		b := 0
		for n := 1; n <= 3; n++ {
			for i := range bound {
				b++
				want(t, "Retire within the bound", y.Retire(n, b), api.OK)
				if y.Limbo(n) != i+1 {
					t.Fatalf("Limbo(%d) = %d, not %d", n, y.Limbo(n), i+1)
				}
			}
			want(t, "Retire over the bound", y.Retire(n, b+1), api.ErrLimbo)
			if y.Limbo(n) != bound || len(y.Waiting()) != b {
				t.Fatalf("Limbo(%d) = %d; %d wait", n, y.Limbo(n), len(y.Waiting()))
			}
		}
		sweeps(t, y, 0)
		want(t, "Leave(3)", y.Leave(3), api.OK)
		sweeps(t, y, 3*bound)
		if blocks, _ := a.Live(); blocks != 3 || len(y.Waiting()) != 0 || a.Faults() != 0 {
			t.Errorf("%d live, %v wait, %d faults", blocks, y.Waiting(), a.Faults())
		}
	}
}

// P4.3: a block that somebody else has freed is freed no second time, and waits no longer behind a Sweep.
func TestFreedByOthers(t *testing.T) {
	a, y := yard(t, 2, 1, 4)
	want(t, "Retire(1, 1)", y.Retire(1, 1), api.OK)
	want(t, "Enter(1)", y.Enter(1), api.OK)
	want(t, "Retire(1, 2)", y.Retire(1, 2), api.OK)
	want(t, "Free(2)", a.Free(2), api.OK)
	want(t, "Leave(1)", y.Leave(1), api.OK)
	sweeps(t, y, 0)
	waits(t, a, y)
	if blocks, _ := a.Live(); blocks != 0 {
		t.Errorf("%d blocks are live", blocks)
	}
}

// P4.4: who writes over an answer, within its length or behind it, changes nothing.
func TestNewMemory(t *testing.T) {
	a, y := yard(t, 3, 3, 8)
	for n := 1; n <= 3; n++ {
		want(t, "Enter", y.Enter(n), api.OK)
		want(t, "Retire", y.Retire(n, n), api.OK)
	}
	for _, list := range [][]int{y.Waiting(), y.Inside()} {
		for i := range list[:cap(list)] {
			list[:cap(list)][i] = 99
		}
	}
	waits(t, a, y, 1, 2, 3)
	if got := y.Inside(); !slices.Equal(got, []int{1, 2, 3}) {
		t.Errorf("Inside = %v", got)
	}
}
