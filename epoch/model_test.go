package epoch_test

import (
	"slices"
	"testing"

	"pythia/api"
	"pythia/cells"
	"pythia/epoch"
)

// model is a yard as plain as can be: each block that waits has a list of the threads that hold it.
type model struct {
	threads, bound int
	inside         map[int]bool
	live           map[int]bool
	waiting        []waiter
	faults         int
}

type waiter struct {
	block, by int
	holders   []int
}

func (m *model) none(t int) bool { return t < 1 || t > m.threads }

func (m *model) enter(t int) api.Errno {
	switch {
	case m.none(t):
		return api.ErrArg
	case m.inside[t]:
		return api.ErrInside
	}
	m.inside[t] = true
	return api.OK
}

func (m *model) leave(t int) api.Errno {
	switch {
	case m.none(t):
		return api.ErrArg
	case !m.inside[t]:
		return api.ErrOutside
	}
	delete(m.inside, t)
	for i := range m.waiting {
		m.waiting[i].holders = slices.DeleteFunc(m.waiting[i].holders, func(h int) bool { return h == t })
	}
	return api.OK
}

func (m *model) sweep() (n int) {
	var kept []waiter
	for _, w := range m.waiting {
		if len(w.holders) > 0 {
			kept = append(kept, w)
			continue
		}
		delete(m.live, w.block)
		n++
	}
	m.waiting = kept
	return n
}

func (m *model) limbo(t int) (n int) {
	for _, w := range m.waiting {
		if w.by == t {
			n++
		}
	}
	return n
}

func (m *model) retire(t, b int) api.Errno {
	if m.none(t) {
		return api.ErrArg
	}
	if slices.Contains(m.blocks(), b) {
		return api.ErrTwice
	}
	if !m.live[b] {
		m.faults++
		return api.ErrFreed
	}
	m.sweep()
	if m.limbo(t) >= m.bound {
		return api.ErrLimbo
	}
	m.waiting = append(m.waiting, waiter{b, t, m.ins()})
	return api.OK
}

func (m *model) blocks() (list []int) {
	for _, w := range m.waiting {
		list = append(list, w.block)
	}
	return list
}

func (m *model) ins() (list []int) {
	for t := range m.threads + 1 {
		if m.inside[t] {
			list = append(list, t)
		}
	}
	return list
}

// dice tells numbers that are the same at every run.
type dice uint64

func (d *dice) roll(n int) int {
	*d = *d*6364136223846793005 + 1442695040888963407
	return int(*d>>33) % n
}

// play makes one call on both, and answers what each says.
func play(d *dice, a *cells.Arena, y *epoch.Yard, m *model) (got, want int) {
	t, b := d.roll(m.threads+2), d.roll(a.Made()+3)-1
	switch d.roll(9) {
	case 0, 1:
		return int(y.Enter(t)), int(m.enter(t))
	case 2, 3:
		return int(y.Leave(t)), int(m.leave(t))
	case 4, 5, 6:
		if d.roll(2) == 0 {
			b = max(1, a.Made()-d.roll(5))
		}
		return int(y.Retire(t, b)), int(m.retire(t, b))
	case 7:
		if d.roll(4) == 0 {
			return y.Sweep(), m.sweep()
		}
	}
	b, _ = a.Alloc(1)
	m.live[b] = true
	return y.Bound(), m.bound
}

// P4.1 to P4.3: the yard answers as the model does, in a great many orders of calls.
func TestModel(t *testing.T) {
	d := dice(7)
	for game := range 300 {
		a := cells.New(api.MaxCells)
		m := &model{threads: 1 + d.roll(4), bound: d.roll(5), inside: map[int]bool{}, live: map[int]bool{}}
		y := epoch.New(a, m.threads, m.bound)
		for i := range 300 {
			if got, want := play(&d, a, y, m); got != want {
				t.Fatalf("game %d, call %d: %d, not %d", game, i, got, want)
			}
			hold(t, a, y, m)
		}
		for n := range m.threads + 1 {
			y.Leave(n)
			m.leave(n)
		}
		if got, want := y.Sweep(), m.sweep(); got != want || len(y.Waiting()) != 0 {
			t.Fatalf("game %d: Sweep = %d, not %d, and %v wait", game, got, want, y.Waiting())
		}
		hold(t, a, y, m)
	}
}

// hold holds all that a yard tells against the model.
func hold(t *testing.T, a *cells.Arena, y *epoch.Yard, m *model) {
	t.Helper()
	if !slices.Equal(y.Waiting(), m.blocks()) || !slices.Equal(y.Inside(), m.ins()) || y.Bound() != m.bound {
		t.Fatalf("Waiting %v, Inside %v, not %v, %v", y.Waiting(), y.Inside(), m.blocks(), m.ins())
	}
	for n := -1; n <= m.threads+1; n++ {
		if got, want := y.Limbo(n), m.limbo(n); got != want || got > m.bound {
			t.Fatalf("Limbo(%d) = %d, not %d of at most %d", n, got, want, m.bound)
		}
	}
	if blocks, _ := a.Live(); blocks != len(m.live) || a.Faults() != m.faults {
		t.Fatalf("%d blocks live, %d faults, not %d, %d", blocks, a.Faults(), len(m.live), m.faults)
	}
	for b := range m.live {
		if _, e := a.Size(b); e != api.OK {
			t.Fatalf("block %d isn't live", b)
		}
	}
}
