package atoms

// mark is how many names are there, and the block of the newest one, in one cell: so both change at one moment. A mark never comes back, since its count only grows.
type mark int64

// countFrom is the bit from which on a mark counts.
const countFrom = 48

// count is how many names are there.
func (m mark) count() int { return int(m >> countFrom) }

// newest is the block of the newest name; 0, if there is none.
func (m mark) newest() int { return int(m & (1<<countFrom - 1)) }

// with is the mark with one name more.
func (m mark) with(newest int) mark {
	return mark(m.count()+1)<<countFrom | mark(newest)
}
