package code

import (
	"pythia/api"
	"pythia/term"
)

// Right tells whether code might come of a clause.
func Right(c Code) bool {
	for place, i := range c.Ins {
		if !fits(c, place, i) {
			return false
		}
	}
	last := len(c.Ins) - 1
	return last >= 0 && c.Ins[last].Op == Done
}

// fits tells whether an instruction may stand at a place in code.
func fits(c Code, place int, i Ins) bool {
	switch i.Op {
	case Get:
		return i.A >= 1 && i.A <= c.Pred.Arity && has(c, i.T)
	case Call:
		return i.A == 0 && has(c, i.T)
	case Fork, Jump:
		return i.A > place && i.A < len(c.Ins) && i.T.Kind == 0
	case Save, Back:
		return i.A >= 0 && i.A < c.Slots && i.T.Kind == 0
	case Cut, Fail, Done:
		return i.A == 0 && i.T.Kind == 0
	}
	return false
}

// has tells whether a term is right, with variables of the code's alone.
func has(c Code, t api.Term) bool {
	if term.Check(t) != api.OK {
		return false
	}
	for _, v := range term.Vars(t) {
		if v > int64(c.Vars) {
			return false
		}
	}
	return true
}
