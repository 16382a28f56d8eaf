package chain

import (
	"slices"

	"pythia/api"
)

// kind is what an operation is for.
type kind int

const (
	addFront kind = iota
	addBehind
	cut
	all
)

// phase is what an operation does next.
type phase int

const (
	toEnter  phase = iota // go into the yard, so that no block is freed that is read
	toFind                // read which block the chain's list lies in
	toSize                // ask how many cells that block has
	toRead                // read the next one of them
	toCheck               // see whether the list that was read is still the chain's
	toMake                // make a block for the changed list
	toFill                // set the next one of its cells
	toSwap                // let the chain's list lie in that block
	toFree                // free that block, since another change came between
	toRetire              // let the block wait that the list lay in
	toLeave               // leave the yard
	isOver                // nothing any more
)

// Op is an operation. A change makes a block for the list as it is to be, and takes effect when that block comes in the place of the one that was read. No block's number comes twice: so if a chain's list lies in the block that was read, nothing was changed meanwhile.
type Op struct {
	base   *Base
	kind   kind
	thread int
	chain  int
	value  int64
	next   phase
	block  int     // the block that is read; 0, if the chain never had one
	size   int     // how many cells it has
	read   []int64 // what was read of it: the stamp, then the numbers
	made   int     // the block that was made
	list   []int64 // what is to stand in it
	filled int     // how much of that stands there
	done   bool
	answer Answer
}

// Answer is what an operation is answered.
type Answer struct {
	Err    api.Errno
	Ok     bool
	Stamp  int64
	Values []int64
}

// Over tells whether an operation is over.
func (o *Op) Over() bool { return o.next == isOver }

// Done tells whether an operation has taken effect.
func (o *Op) Done() bool { return o.done }

// Answer is what an operation is answered.
func (o *Op) Answer() Answer {
	if !o.Over() {
		return Answer{}
	}
	answer := o.answer
	answer.Values = slices.Clone(answer.Values)
	return answer
}

// Step does a step of an operation.
func (o *Op) Step() bool {
	switch o.next {
	case toEnter:
		o.enter()
	case toFind:
		o.look(o.base.head(o.chain))
	case toSize:
		o.measure()
	case toRead:
		o.readCell()
	case toCheck:
		o.check()
	case toMake:
		o.build()
	case toFill:
		o.fill()
	case toSwap:
		o.swap()
	case toFree:
		o.base.arena.Free(o.made)
		o.next = toFind
	case toRetire:
		o.base.yard.Retire(o.thread, o.block)
		o.next = toLeave
	case toLeave:
		o.base.yard.Leave(o.thread)
		o.next = isOver
	}
	return o.Over()
}

// enter goes into the yard; who can't is over at once.
func (o *Op) enter() {
	o.next = toFind
	err := api.ErrArg
	if o.base.isChain(o.chain) {
		err = o.base.yard.Enter(o.thread)
	}
	if err != api.OK {
		o.answer.Err = err
		o.next = isOver
	}
}

// look begins to read the list that lies in a block. However long that takes, it is what the chain has at this step: so an All takes effect here.
func (o *Op) look(block int) {
	o.done = o.kind == all
	o.block = block
	o.read = nil
	o.next = toSize
	if block == 0 {
		o.read = []int64{0}
		o.decide()
	}
}

// measure asks how long the list is.
func (o *Op) measure() {
	o.size, _ = o.base.arena.Size(o.block)
	o.next = toRead
	if full := o.size > api.MaxClause; full && (o.kind == addFront || o.kind == addBehind) {
		o.fail(api.ErrMany)
	}
}

// readCell reads one cell more of the list.
func (o *Op) readCell() {
	o.read = append(o.read, o.base.cell(o.block, len(o.read)))
	if len(o.read) >= o.size {
		o.decide()
	}
}

// decide goes on behind a list that is read through.
func (o *Op) decide() {
	stamp, values := o.read[0], o.read[1:]
	switch o.kind {
	case addFront:
		o.change(stamp+1, []int64{o.value}, values)
	case addBehind:
		o.change(stamp+1, values, []int64{o.value})
	case cut:
		i := slices.Index(values, o.value)
		if i < 0 {
			o.next = toCheck
			return
		}
		o.change(stamp+1, values[:i], values[i+1:])
	case all:
		o.settle(Answer{Ok: true, Stamp: stamp, Values: values})
	}
}

// change says what the list is to be.
func (o *Op) change(stamp int64, ahead, behind []int64) {
	o.list = slices.Concat([]int64{stamp}, ahead, behind)
	o.next = toMake
}

// check takes effect, for a Cut that has found nothing, if the list is still the chain's: the number may have come since it was read.
func (o *Op) check() {
	block := o.base.head(o.chain)
	if block != o.block {
		o.look(block)
		return
	}
	o.done = true
	o.settle(Answer{Stamp: o.read[0]})
}

// build makes a block for the changed list. Whether the other one may wait then is asked here, since nothing may go wrong any more once the change has taken effect: no other operation lets blocks of this thread wait as long as this one is inside.
func (o *Op) build() {
	o.base.yard.Sweep()
	if o.base.yard.Limbo(o.thread) >= o.base.yard.Bound() {
		o.fail(api.ErrLimbo)
		return
	}
	made, err := o.base.arena.Alloc(len(o.list))
	if err != api.OK {
		o.fail(err)
		return
	}
	o.made = made
	o.filled = 0
	o.next = toFill
}

// fill sets one cell more of the block that was made.
func (o *Op) fill() {
	o.base.arena.Store(o.made, o.filled, o.list[o.filled])
	if o.filled++; o.filled == len(o.list) {
		o.next = toSwap
	}
}

// swap takes effect, if nothing was changed since the list was read; else all begins anew.
func (o *Op) swap() {
	put, err := o.base.arena.Swap(o.base.block, o.chain-1, int64(o.block), int64(o.made))
	switch {
	case put:
		o.done = true
		o.settle(Answer{Ok: true, Stamp: o.list[0]})
		if o.block != 0 {
			o.next = toRetire
		}
	case err != api.OK:
		// Somebody has freed the base's own block: nothing would ever go well.
		o.fail(err)
	default:
		o.next = toFree
	}
}

// settle ends an operation but for what it leaves behind.
func (o *Op) settle(answer Answer) {
	o.answer = answer
	o.next = toLeave
}

// fail ends an operation with an error.
func (o *Op) fail(err api.Errno) { o.settle(Answer{Err: err}) }
