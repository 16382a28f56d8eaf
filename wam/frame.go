package wam

import (
	"slices"

	"pythia/api"
	"pythia/code"
)

// frame is code under way. It is copied wherever it is to go on later: what its lists have is never changed, so copies share them.
type frame struct {
	ins    []code.Ins
	next   int
	args   []int    // where the goal's arguments stand
	cells  []int    // where the code's variables stand, from the first on; below 0, or behind the last place, where they don't yet
	slots  []int    // heights of the choices
	height int      // how many choices there were when the goal was begun
	up     *frame   // goes on when this one is done; nil, if the machine's goal has come true then
	catch  *catcher // the innermost catch that is under way; nil, if none is
}

// choice is a way back.
type choice struct {
	frame frame
	rest  []*code.Code // the clauses that are left behind the one that the frame carries out
	mark  int          // the heap's mark of how everything was
}

// catcher is a catch.
type catcher struct {
	frame    frame    // what goes on in the catch's place; its own catch is the next one outwards
	ball     api.Term // what is caught: in the heap's variables, as the next one
	recovery api.Term
	height   int // how many choices there were when the catch was begun
	mark     int
}

// unset is where a variable of the code stands that has no cell yet.
const unset = -1

// cell is where a variable of the code stands; false, if it has no cell yet.
func (f *frame) cell(v int64) (int, bool) {
	if v > int64(len(f.cells)) || f.cells[v-1] == unset {
		return 0, false
	}
	return f.cells[v-1], true
}

// setCell lets a variable of the code stand where something is.
func (f *frame) setCell(v int64, at int) {
	cells := slices.Repeat([]int{unset}, max(len(f.cells), int(v)))
	copy(cells, f.cells)
	cells[v-1] = at
	f.cells = cells
}

// save lets a slot keep a height.
func (f *frame) save(slot, height int) {
	slots := make([]int, max(len(f.slots), slot+1))
	copy(slots, f.slots)
	slots[slot] = height
	f.slots = slots
}

// enter carries out code for a goal's arguments, within a catch.
func (m *Machine) enter(c code.Code, args []int, catch *catcher) {
	m.frame = frame{ins: c.Ins, args: args, height: len(m.choices), up: m.onward(), catch: catch}
}

// onward is what goes on behind a goal that is begun now: the frame that is under way, or, if that is done then, what goes on behind it, so that goals that come last don't pile up.
func (m *Machine) onward() *frame {
	next := m.frame.next
	for m.frame.ins[next].Op == code.Jump {
		next = m.frame.ins[next].A
	}
	if m.frame.ins[next].Op == code.Done && m.frame.up != nil {
		return m.frame.up
	}
	f := m.frame
	return &f
}

// push makes a choice.
func (m *Machine) push(f frame, rest []*code.Code) api.Errno {
	if len(m.choices) >= m.most {
		return api.ErrStack
	}
	m.choices = append(m.choices, choice{frame: f, rest: rest, mark: m.heap.Mark()})
	return api.OK
}

// cut takes the choices above a height away. Marks of catches that go with those of the choices are none of a catch that is under way: it was begun ahead of what cuts.
func (m *Machine) cut(height int) {
	if height < len(m.choices) {
		m.heap.Keep(m.choices[height].mark)
		clear(m.choices[height:]) // so that what they hold is let go
		m.choices = m.choices[:height]
	}
}

// fail lets failure come next.
func (m *Machine) fail() { m.todo = m.goBack }

// goBack goes back to the newest choice.
func (m *Machine) goBack() api.Errno {
	newest := len(m.choices) - 1
	if newest < 0 {
		m.event = api.Event{Kind: api.EvFail}
		return api.OK
	}
	c := &m.choices[newest]
	m.heap.Undo(c.mark)
	m.frame = c.frame
	if len(c.rest) == 0 {
		m.cut(newest)
	} else {
		c.frame.ins = c.rest[0].Ins
		c.rest = c.rest[1:]
	}
	return api.OK
}
