package code

import (
	"pythia/api"
	"pythia/base"
)

// maker is code that is being made.
type maker struct {
	Code
}

// made is the code of a clause whose head has these arguments.
func made(p api.Pred, vars int, args []api.Term, body api.Term) Code {
	m := maker{Code{Pred: p, Vars: vars}}
	for i, arg := range args {
		m.add(Ins{Op: Get, A: i + 1, T: arg})
	}
	m.body(body, Ins{Op: Cut})
	m.add(Ins{Op: Done})
	return m.Code
}

// add puts an instruction behind the others; its place.
func (m *maker) add(i Ins) int {
	m.Ins = append(m.Ins, i)
	return len(m.Ins) - 1
}

// leadHere makes what stands at a place lead to what comes next.
func (m *maker) leadHere(place int) { m.Ins[place].A = len(m.Ins) }

// body puts a body into code, whose cut is given.
func (m *maker) body(t api.Term, cut Ins) {
	p, _ := base.Of(t) // of a variable and a number none that is named here
	switch p {
	case api.Pred{Name: "true"}:
	case api.Pred{Name: "fail"}, api.Pred{Name: "false"}:
		m.add(Ins{Op: Fail})
	case api.Pred{Name: "!"}:
		m.add(cut)
	case api.Pred{Name: ",", Arity: 2}:
		m.body(t.Args[0], cut)
		m.body(t.Args[1], cut)
	case api.Pred{Name: ";", Arity: 2}:
		m.either(t.Args[0], t.Args[1], cut)
	case arrow():
		m.either(t, api.Term{Kind: api.Atom, Name: "fail"}, cut)
	case api.Pred{Name: `\+`, Arity: 1}:
		fork := m.condition(t.Args[0])
		m.add(Ins{Op: Fail})
		m.leadHere(fork)
	default:
		m.add(Ins{Op: Call, T: t})
	}
}

// arrow is the predicate of a condition and what is done behind it.
func arrow() api.Pred { return api.Pred{Name: "->", Arity: 2} }

// either puts two sides into code; of the first one that is a condition and what is done behind it, the condition settles which side it is.
func (m *maker) either(a, b api.Term, cut Ins) {
	if p, _ := base.Of(a); p == arrow() {
		m.sides(m.condition(a.Args[0]), a.Args[1], b, cut)
	} else {
		m.sides(m.add(Ins{Op: Fork}), a, b, cut)
	}
}

// sides puts two sides into code, the second one where a Fork leads.
func (m *maker) sides(fork int, a, b api.Term, cut Ins) {
	m.body(a, cut)
	jump := m.add(Ins{Op: Jump})
	m.leadHere(fork)
	m.body(b, cut)
	m.leadHere(jump)
}

// condition puts a condition into code; the place of the Fork that is the way back where it fails. Its cut goes back to a slot of its own, behind that Fork, which only its end takes away.
func (m *maker) condition(c api.Term) int {
	before, behind := m.Slots, m.Slots+1
	m.Slots += 2
	m.add(Ins{Op: Save, A: before})
	fork := m.add(Ins{Op: Fork})
	m.add(Ins{Op: Save, A: behind})
	m.body(c, Ins{Op: Back, A: behind})
	m.add(Ins{Op: Back, A: before})
	return fork
}
