package cells_test

import (
	"testing"

	"pythia/api"
	"pythia/cells"
)

// model is an arena as plain as can be: every block that ever was, at its number less 1; nil, once it is freed.
type model struct {
	most, faults int
	blocks       [][]int64
}

func (m *model) live() (n, size int) {
	for _, b := range m.blocks {
		if b != nil {
			n++
			size += len(b)
		}
	}
	return n, size
}

// look finds a cell as the chapter says it: first whether there is the block, then whether there is the cell.
func (m *model) look(b, i int) (*int64, api.Errno) {
	if b < 1 || b > len(m.blocks) || m.blocks[b-1] == nil {
		m.faults++
		return nil, api.ErrFreed
	}
	if i < 0 || i >= len(m.blocks[b-1]) {
		return nil, api.ErrArg
	}
	return &m.blocks[b-1][i], api.OK
}

func (m *model) alloc(n int) (int, api.Errno) {
	if n < 1 || n > api.MaxBlock {
		return 0, api.ErrArg
	}
	if _, size := m.live(); size+n > m.most {
		return 0, api.ErrFull
	}
	m.blocks = append(m.blocks, make([]int64, n))
	return len(m.blocks), api.OK
}

// dice tells numbers that are the same at every run.
type dice uint64

func (d *dice) roll(n int) int {
	*d = *d*6364136223846793005 + 1442695040888963407
	return int(*d>>33) % n
}

// answers is what one call answers, whichever it is.
type answers struct {
	v  int64
	ok bool
	e  api.Errno
}

// play makes one call on both, and answers what each says.
func play(d *dice, a *cells.Arena, m *model) (got, want answers) {
	call, b, i := d.roll(7), d.roll(len(m.blocks)+3)-1, d.roll(10)-1
	v, w := int64(d.roll(3)), int64(d.roll(3))
	if call == 0 {
		n := d.roll(11) - 1
		b, got.e = a.Alloc(n)
		i, want.e = m.alloc(n)
		got.v, want.v = int64(b), int64(i)
		return got, want
	}
	var n int
	cell, e := m.look(b, i)
	want.e = e
	switch call {
	case 1:
		got.e = a.Free(b)
		if want.e != api.ErrFreed {
			want.e = api.OK
			m.blocks[b-1] = nil
		}
	case 2:
		n, got.e = a.Size(b)
		got.v = int64(n)
		if want.e != api.ErrFreed {
			want = answers{v: int64(len(m.blocks[b-1]))}
		}
	case 3:
		got.v, got.e = a.Load(b, i)
		if e == api.OK {
			want.v = *cell
		}
	case 4:
		got.e = a.Store(b, i, v)
		if e == api.OK {
			*cell = v
		}
	case 5:
		got.ok, got.e = a.Swap(b, i, v, w)
		if e == api.OK && *cell == v {
			*cell, want.ok = w, true
		}
	case 6:
		got.v, got.e = a.Add(b, i, v-1)
		if e == api.OK {
			*cell += v - 1
			want.v = *cell
		}
	}
	return got, want
}

// whole holds all that an arena has live, and what it counts, against the model.
func whole(t *testing.T, a *cells.Arena, m *model) {
	t.Helper()
	for b := 1; b <= len(m.blocks); b++ {
		for i := range m.blocks[b-1] {
			holds(t, a, b, i, m.blocks[b-1][i])
		}
	}
	n, size := m.live()
	counts(t, a, n, size, len(m.blocks), m.faults)
}

// P2.1, P2.2 and P2.3: whatever is called in whatever order, an arena answers as plain lists would.
func TestAgainstModel(t *testing.T) {
	for most := range 30 {
		d := dice(most + 1)
		a, m := cells.New(most), &model{most: most}
		for step := range 600 {
			got, want := play(&d, a, m)
			if got != want {
				t.Fatalf("room %d, step %d: %v, not %v", most, step, got, want)
			}
			whole(t, a, m)
		}
	}
}
