package chain_test

import (
	"math"
	"slices"
	"testing"

	"pythia/api"
	"pythia/cells"
	"pythia/chain"
	"pythia/epoch"
)

// run steps an operation until it is over.
func run(t *testing.T, o *chain.Op) chain.Answer {
	t.Helper()
	for range 5000 {
		if o.Step() {
			return o.Answer()
		}
	}
	t.Fatal("an operation that isn't over")
	return chain.Answer{}
}

func TestNew(t *testing.T) {
	for _, c := range []struct {
		room, chains int
		want         api.Errno
	}{
		{100, 0, api.ErrArg}, {100, -1, api.ErrArg}, {100, 65, api.ErrArg}, {0, 65, api.ErrArg}, {100, math.MaxInt, api.ErrArg}, {100, math.MinInt, api.ErrArg},
		{0, 1, api.ErrFull}, {63, 64, api.ErrFull}, {100, 1, api.OK}, {64, 64, api.OK}, {1, 1, api.OK},
	} {
		a := cells.New(c.room)
		b, e := chain.New(a, epoch.New(a, 8, 8), c.chains)
		if e != c.want || (b != nil) != (e == api.OK) {
			t.Errorf("New with %d cells, of %d chains: %v, %d", c.room, c.chains, b, e)
		}
		blocks, used := a.Live()
		if e == api.OK && (blocks != 1 || used != c.chains) || e != api.OK && blocks != 0 {
			t.Errorf("New with %d cells, of %d chains: %d blocks, %d cells", c.room, c.chains, blocks, used)
		}
		if e != api.OK {
			continue
		}
		for n := -1; n <= c.chains+1; n++ {
			if v, stamp := b.List(n); len(v) != 0 || stamp != 0 {
				t.Errorf("chain %d of a new base: %v, %d", n, v, stamp)
			}
		}
	}
}

func TestExamples(t *testing.T) {
	a := cells.New(100)
	b, _ := chain.New(a, epoch.New(a, 2, 8), 2)
	o := b.All(2, 1)
	for _, c := range []struct {
		op   *chain.Op
		want chain.Answer
	}{
		{b.Add(1, 1, 7, false), chain.Answer{Ok: true, Stamp: 1}},
		{b.Add(1, 1, 8, true), chain.Answer{Ok: true, Stamp: 2}},
		{b.All(1, 1), chain.Answer{Ok: true, Stamp: 2, Values: []int64{8, 7}}},
		{b.Cut(1, 1, 7), chain.Answer{Ok: true, Stamp: 3}},
		{b.Cut(1, 1, 7), chain.Answer{Stamp: 3}},
		{b.All(1, 2), chain.Answer{Ok: true}},
		{b.Cut(1, 2, 7), chain.Answer{}},
	} {
		if got := run(t, c.op); !same(got, c.want) || !c.op.Done() {
			t.Errorf("%v, not %v", got, c.want)
		}
	}
	if v, stamp := b.List(1); !slices.Equal(v, []int64{8}) || stamp != 3 {
		t.Errorf("List = %v, %d", v, stamp)
	}
	for !o.Done() {
		o.Step()
	}
	run(t, b.Cut(1, 1, 8))
	if got := run(t, o); !slices.Equal(got.Values, []int64{8}) || got.Stamp != 3 {
		t.Errorf("an All that has taken effect ahead of a Cut: %v", got)
	}
	if v, stamp := b.List(1); len(v) != 0 || stamp != 4 {
		t.Errorf("List = %v, %d", v, stamp)
	}
}

// Just the first one that is the number goes; numbers of all sizes come back.
func TestValues(t *testing.T) {
	w := newWatch(t, 1000, 1, 9, 1)
	for _, v := range []int64{3, 0, -1, math.MaxInt64, 3, math.MinInt64, 3} {
		w.run(behind, 1, 1, v)
	}
	w.run(cut, 1, 1, 3)
	w.run(cut, 1, 1, math.MinInt64)
	w.run(cut, 1, 1, 0)
	if v, _ := w.base.List(1); !slices.Equal(v, []int64{-1, math.MaxInt64, 3, 3}) {
		t.Errorf("List = %v", v)
	}
	w.run(all, 1, 1, 0)
}

// The errors, in the order in which they are looked for.
func TestErrors(t *testing.T) {
	w := newWatch(t, 2000, 3, 2, 3)
	w.fill(1, 2, 200)
	w.run(behind, 1, 1, 7)
	x := w.begin(all, 2, 1, 0)
	w.step(x)
	for _, c := range []struct {
		kind, thread, chain int
		value               int64
		want                api.Errno
	}{
		{all, 0, 1, 0, api.ErrArg}, {all, 4, 1, 0, api.ErrArg}, {all, -1, 1, 0, api.ErrArg}, {all, math.MaxInt, 1, 0, api.ErrArg},
		{all, 1, 0, 0, api.ErrArg}, {cut, 1, 4, 0, api.ErrArg}, {front, 1, -1, 0, api.ErrArg}, {behind, 1, math.MinInt, 0, api.ErrArg}, {all, 1, 65, 0, api.ErrArg},
		{behind, 2, 4, 0, api.ErrArg}, {behind, 4, 2, 0, api.ErrArg},
		{behind, 2, 2, 0, api.ErrInside}, {cut, 2, 1, 7, api.ErrInside}, {all, 2, 1, 0, api.ErrInside},
		{front, 1, 2, 0, api.ErrMany}, {behind, 1, 2, 0, api.ErrMany},
		{cut, 1, 2, 5, api.OK}, {front, 1, 2, 5, api.OK}, // two blocks wait now, held by thread 2
		{front, 1, 2, 0, api.ErrMany},
		{front, 1, 1, 0, api.ErrLimbo}, {behind, 1, 3, 0, api.ErrLimbo}, {cut, 1, 1, 7, api.ErrLimbo},
		{cut, 1, 1, 8, api.OK}, {cut, 1, 2, 900, api.OK}, {cut, 1, 3, 0, api.OK}, {all, 1, 1, 0, api.OK},
		{front, 3, 1, 0, api.OK},
	} {
		if got := w.run(c.kind, c.thread, c.chain, c.value); got.Err != c.want {
			t.Errorf("kind %d, thread %d, chain %d, %d: %v", c.kind, c.thread, c.chain, c.value, got)
		}
	}
	w.turns()
	if got := w.run(front, 1, 3, 0); got.Err != api.OK {
		t.Errorf("what waited isn't held any more: %v", got)
	}
}

// ErrArg and ErrInside are told at the first step.
func TestFirstStep(t *testing.T) {
	w := newWatch(t, 100, 2, 2, 1)
	x := w.begin(all, 1, 1, 0)
	w.step(x)
	for _, y := range []*watched{w.begin(all, 1, 1, 0), w.begin(front, 1, 1, 0), w.begin(cut, 3, 1, 0), w.begin(cut, 2, 2, 0)} {
		if !w.step(y) {
			t.Errorf("it goes on, with thread %d, chain %d", y.thread, y.chain)
		}
	}
	// Who was begun, but never stepped, is in nobody's way.
	w.begin(all, 2, 1, 0)
	if got := w.run(front, 2, 1, 0); got.Err != api.OK {
		t.Errorf("behind an operation that was never stepped: %v", got)
	}
}

// P5.2, P5.4: no room. What was begun leaves nothing; what is freed can be had again.
func TestNoRoom(t *testing.T) {
	w := newWatch(t, 1+2+3+4, 2, 9, 1)
	for i, want := range []api.Errno{api.OK, api.OK, api.OK, api.OK, api.ErrFull, api.ErrFull} {
		if got := w.run(behind, 1, 1, int64(i)); got.Err != want {
			t.Fatalf("Add number %d: %v", i, got)
		}
	}
	if got := w.run(cut, 1, 1, 9); got.Err != api.OK || got.Ok || got.Stamp != 4 {
		t.Errorf("a Cut that finds nothing: %v", got)
	}
	if got := w.run(cut, 1, 1, 2); got.Err != api.OK || !got.Ok || got.Stamp != 5 {
		t.Errorf("a Cut: %v", got)
	}
	x := w.begin(all, 2, 1, 0)
	w.step(x)
	w.step(x)
	for value := range 2 {
		if got := w.run(cut, 1, 1, int64(value)); got.Err != api.OK {
			t.Errorf("Cut of %d: %v", value, got)
		}
	}
	if got := w.run(cut, 1, 1, 3); got.Err != api.ErrFull {
		t.Errorf("a Cut while the old lists are held: %v", got)
	}
	w.turns()
	if got := w.run(cut, 1, 1, 3); got.Err != api.OK {
		t.Errorf("a Cut: %v", got)
	}
}

// A bound of 0: nothing is ever changed.
func TestNoLimbo(t *testing.T) {
	w := newWatch(t, 100, 1, 0, 1)
	for _, c := range []struct {
		kind int
		want api.Errno
	}{{front, api.ErrLimbo}, {behind, api.ErrLimbo}, {cut, api.OK}, {all, api.OK}} {
		if got := w.run(c.kind, 1, 1, 1); got.Err != c.want {
			t.Errorf("kind %d: %v", c.kind, got)
		}
	}
}

// A Cut that finds nothing answers what is so when it takes effect, not what was so when it began to read.
func TestCutOfWhatComes(t *testing.T) {
	for stolen := range 30 {
		w := newWatch(t, 200, 2, 9, 1)
		w.fill(1, 1, 3)
		x := w.begin(cut, 2, 1, 9)
		w.steal(x, stolen)
		was := x.done
		w.run(front, 1, 1, 9)
		w.turns()
		if got := x.op.Answer(); got.Ok == was {
			t.Errorf("9 came behind step %d, when Done was %v: %v", stolen, was, got)
		}
	}
}

// The stamp counts changes, on a chain that is empty again too.
func TestStamp(t *testing.T) {
	w := newWatch(t, 100, 1, 9, 2)
	for i := range 20 {
		w.run(front, 1, 1, 5)
		w.run(cut, 1, 1, 6)
		if got := w.run(cut, 1, 1, 5); got.Stamp != int64(2*i+2) {
			t.Fatalf("round %d: %v", i, got)
		}
		w.run(all, 1, 1, 0)
		w.run(all, 1, 2, 0)
	}
}

// P5.5: answers are new memory.
func TestNewMemory(t *testing.T) {
	w := newWatch(t, 100, 1, 9, 1)
	w.fill(1, 1, 3)
	x := w.begin(all, 1, 1, 0)
	w.turns()
	want := []int64{1, 2, 3}
	for range 3 {
		v, _ := w.base.List(1)
		got := x.op.Answer().Values
		if !slices.Equal(v, want) || !slices.Equal(got, want) {
			t.Fatalf("List %v, Values %v", v, got)
		}
		for _, s := range [][]int64{v[:cap(v)], got[:cap(got)]} {
			for i := range s {
				s[i] = -9
			}
		}
	}
}

// Whoever frees what isn't theirs brings no operation to go on for ever.
func TestFreedByOthers(t *testing.T) {
	for stolen := range 20 {
		for block := 1; block <= 3; block++ {
			for kind := front; kind <= all; kind++ {
				a := cells.New(100)
				b, _ := chain.New(a, epoch.New(a, 2, 9), 1)
				run(t, b.Add(1, 1, 7, true))
				o := []*chain.Op{b.Add(1, 1, 3, true), b.Add(1, 1, 3, false), b.Cut(1, 1, 7), b.All(1, 1)}[kind]
				for range stolen {
					o.Step()
				}
				a.Free(block)
				run(t, o)
				b.List(1)
			}
		}
	}
}

// P5.5: what was answered stays, whatever is changed behind it.
func TestHeldAnswers(t *testing.T) {
	w := newWatch(t, 200, 2, 9, 1)
	w.fill(1, 1, 3)
	x := w.begin(all, 2, 1, 0)
	w.turns()
	listed, _ := w.base.List(1)
	told := x.op.Answer().Values
	for value := range 4 {
		w.run(cut, 1, 1, int64(value))
		w.run(front, 1, 1, 9)
	}
	for _, held := range [][]int64{listed, told, x.op.Answer().Values} {
		if !slices.Equal(held, []int64{1, 2, 3}) {
			t.Errorf("what was held has become %v", held)
		}
	}
}
