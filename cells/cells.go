// Package cells is layer 2: see shared/doc/02-cells.md.
package cells

import "pythia/api"

// Arena is cells in blocks.
type Arena struct {
	most   int             // how many cells may be live
	used   int             // how many are
	made   int             // how many blocks were made: the last one's number
	faults int             // how many calls answered ErrFreed
	blocks map[int][]int64 // the live blocks, by number
}

// New makes an arena without blocks.
func New(most int) *Arena {
	return &Arena{
		most:   min(max(most, 0), api.MaxCells),
		blocks: map[int][]int64{},
	}
}

// Alloc makes a block.
func (a *Arena) Alloc(n int) (int, api.Errno) {
	if n < 1 || n > api.MaxBlock {
		return 0, api.ErrArg
	}
	if a.used+n > a.most {
		return 0, api.ErrFull
	}
	a.made++
	a.used += n
	a.blocks[a.made] = make([]int64, n)
	return a.made, api.OK
}

// Free frees a block.
func (a *Arena) Free(b int) api.Errno {
	block, err := a.block(b)
	if err != api.OK {
		return err
	}
	a.used -= len(block)
	delete(a.blocks, b)
	return api.OK
}

// Load is what a cell holds.
func (a *Arena) Load(b, i int) (int64, api.Errno) {
	cell, err := a.cell(b, i)
	if err != api.OK {
		return 0, err
	}
	return *cell, api.OK
}

// Store sets a cell.
func (a *Arena) Store(b, i int, v int64) api.Errno {
	cell, err := a.cell(b, i)
	if err != api.OK {
		return err
	}
	*cell = v
	return api.OK
}

// Swap sets a cell, if it holds something.
func (a *Arena) Swap(b, i int, old, new int64) (bool, api.Errno) {
	cell, err := a.cell(b, i)
	if err != api.OK {
		return false, err
	}
	if *cell != old {
		return false, api.OK
	}
	*cell = new
	return true, api.OK
}

// Add adds to a cell.
func (a *Arena) Add(b, i int, d int64) (int64, api.Errno) {
	cell, err := a.cell(b, i)
	if err != api.OK {
		return 0, err
	}
	*cell += d
	return *cell, api.OK
}

// Size is how many cells a block has.
func (a *Arena) Size(b int) (int, api.Errno) {
	block, err := a.block(b)
	if err != api.OK {
		return 0, err
	}
	return len(block), api.OK
}

// Live is how many blocks and cells there are.
func (a *Arena) Live() (int, int) { return len(a.blocks), a.used }

// Made is how many blocks were made.
func (a *Arena) Made() int { return a.made }

// Faults is how many calls touched what is freed.
func (a *Arena) Faults() int { return a.faults }

// block is a live block's cells. Every call that names a block goes this way, so that each touch of a freed one is counted, and once.
func (a *Arena) block(b int) ([]int64, api.Errno) {
	block, live := a.blocks[b]
	if !live {
		a.faults++
		return nil, api.ErrFreed
	}
	return block, api.OK
}

// cell is the place of a live block's cell.
func (a *Arena) cell(b, i int) (*int64, api.Errno) {
	block, err := a.block(b)
	if err != api.OK {
		return nil, err
	}
	if i < 0 || i >= len(block) {
		return nil, api.ErrArg
	}
	return &block[i], api.OK
}
