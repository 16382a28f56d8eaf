package read

import (
	"math"

	"pythia/api"
)

// typeNames are what the types of operators are called; 0 is no type.
var typeNames = [...]string{api.XFX: "xfx", api.XFY: "xfy", api.YFX: "yfx", api.FY: "fy", api.FX: "fx", api.XF: "xf", api.YF: "yf"}

// operator is the operator that a term :-(op(P, T, N)) tells of; false, if the term is none of these.
func operator(t api.Term) (api.Op, bool) {
	if !isComp(t, ":-", 1) || !isComp(t.Args[0], "op", 3) {
		return api.Op{}, false
	}
	args := t.Args[0].Args
	prec, kind, name := args[0], typeOf(args[1]), args[2]
	if prec.Kind != api.Num || kind == 0 || name.Kind != api.Atom {
		return api.Op{}, false
	}
	// Cut down, so that a great number becomes no small one where an int is of 32 bits.
	n := max(math.MinInt32, min(prec.Int, math.MaxInt32))
	return api.Op{Name: name.Name, Type: kind, Prec: int(n)}, true
}

// typeOf is the type that an atom names; 0, if it names none.
func typeOf(t api.Term) int {
	for kind, name := range typeNames {
		if t.Kind == api.Atom && t.Name == name {
			return kind
		}
	}
	return 0
}

func isComp(t api.Term, name string, arity int) bool {
	return t.Kind == api.Comp && t.Name == name && len(t.Args) == arity
}
