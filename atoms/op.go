package atoms

import "pythia/api"

// deed is what an operation does next.
type deed int

const (
	toRefuse deed = iota // answer that the name is too long
	toMark               // read the mark
	toFollow             // read what follows the newest block
	toHang               // let the newest block's list begin with it
	toHead               // read where the name's list begins
	toWalk               // read which block follows there
	toMake               // make a block for the name
	toJoin               // let the list follow the block
	toPut                // put the block into the mark
	toDrop               // free the block, for which there was no use
	isOver               // nothing any more
)

// Op is an operation. The name is there from the moment at which its block is put into the mark, and the operation is over then; to hang the block into its list is left to whoever comes next. So each list has all names but for the newest one, which everybody hangs ahead of looking: while the mark stays what it was, a name that wasn't found isn't there, and as many may be added as the mark says.
type Op struct {
	table  *Table
	next   deed
	name   string
	list   int       // the list that the name belongs in
	seen   mark      // the mark, as it was read last
	behind int       // what follows the newest block of that mark
	head   int       // the block that the list began with, when that was read last
	past   int       // from this block of the list on nothing is the name
	at     int       // the block that is looked at
	block  int       // the block that was made for the name; 0, if there is none
	full   bool      // the arena had no room for a block
	id     int       // the answer
	err    api.Errno // the answer's error
}

// Over tells whether an operation is over.
func (o *Op) Over() bool { return o.next == isOver }

// Answer is an operation's answer.
func (o *Op) Answer() (int, api.Errno) {
	if !o.Over() {
		return 0, api.OK
	}
	return o.id, o.err
}

// Step does a step of an operation.
func (o *Op) Step() bool {
	switch o.next {
	case toRefuse:
		o.end(0, api.ErrLong)
	case toMark:
		o.readMark()
	case toFollow:
		o.behind = o.table.behind(o.seen.newest())
		o.next = toHang
	case toHang:
		o.hang()
	case toHead:
		o.head = o.table.head(o.list)
		o.look(o.head)
	case toWalk:
		o.look(o.table.behind(o.at))
	case toMake:
		o.build()
	case toJoin:
		o.table.arena.Store(o.block, 0, int64(o.head))
		o.next = toPut
	case toPut:
		o.put()
	case toDrop:
		o.table.arena.Free(o.block)
		delete(o.table.names, o.block)
		o.next = isOver
	}
	return o.Over()
}

// readMark reads the mark, on which all that follows is built.
func (o *Op) readMark() {
	o.seen = o.table.mark()
	o.next = toFollow
	if o.seen.newest() == 0 {
		o.next = toHead
	}
}

// hang hangs the newest block into its list, if nobody has done so: then the list still begins with what follows the block. No block begins a list twice, so that whoever comes late does nothing.
func (o *Op) hang() {
	newest := o.seen.newest()
	list := o.table.list(o.table.names[newest])
	o.table.arena.Swap(o.table.first, 1+list, int64(o.behind), int64(newest))
	o.next = toHead
}

// look looks at a block of the list, or at its end.
func (o *Op) look(at int) {
	o.at = at
	switch {
	case at == 0 || at == o.past:
		o.past = o.head
		o.decide()
	case o.table.names[at] == o.name:
		o.end(at, api.OK)
	default:
		o.next = toWalk
	}
}

// decide goes on behind a list in which the name isn't: it wasn't there, when the mark was read.
func (o *Op) decide() {
	switch {
	case o.seen.count() >= o.table.most:
		o.end(0, api.ErrMany)
	case o.full:
		o.end(0, api.ErrFull)
	case o.block == 0:
		o.next = toMake
	default:
		o.next = toJoin
	}
}

// build makes a block. That there is no room for it is answered only after one more look: the name may have come meanwhile, and needs none then.
func (o *Op) build() {
	block, err := o.table.arena.Alloc(1)
	if err != api.OK {
		o.full = true
		o.next = toMark
		return
	}
	// The name stands ready ahead of its block being seen by others.
	o.table.names[block] = o.name
	o.block = block
	o.next = toJoin
}

// put puts the block into the mark, if no name was added since it was read; else all is looked at again.
func (o *Op) put() {
	put, err := o.table.arena.Swap(o.table.first, 0, int64(o.seen), int64(o.seen.with(o.block)))
	switch {
	case put:
		o.id = o.block
		o.next = isOver
	case err != api.OK:
		// Somebody has freed the table: nothing would ever go well.
		o.end(0, err)
	default:
		o.next = toMark
	}
}

// end ends an operation whose block, if it has made one, is of no use.
func (o *Op) end(id int, err api.Errno) {
	o.id, o.err = id, err
	o.next = isOver
	if o.block != 0 {
		o.next = toDrop
	}
}
