package pure

import (
	"pythia/api"
	"pythia/arith"
)

// pair is two terms that are to be made the same.
type pair struct{ left, right api.Term }

// alike is what comes of a goal that comes true, if each pair can be made the same.
func alike(pairs ...pair) Out {
	out := Out{Ok: true}
	for _, p := range pairs {
		out.Left = append(out.Left, p.left)
		out.Right = append(out.Right, p.right)
	}
	return out
}

// told is what comes of a test.
func told(holds bool) Out {
	if !holds {
		return Out{}
	}
	return alike()
}

// thrown is what comes of a goal that throws the ball of a formal term. That term is never greater than the goal, so it is right; the ball may be too great.
func thrown(kind string, args ...api.Term) Out {
	return Out{Ball: arith.Fault(kind, args...)}
}

func unbound() Out { return thrown("instantiation_error") }

func wrongType(wanted string, t api.Term) Out { return thrown("type_error", atom(wanted), t) }

func wrongDomain(wanted string, t api.Term) Out { return thrown("domain_error", atom(wanted), t) }

func belowZero(n api.Term) Out { return wrongDomain("not_less_than_zero", n) }

func tooManyArgs() Out { return thrown("representation_error", atom("max_arity")) }

func atom(name string) api.Term { return api.Term{Kind: api.Atom, Name: name} }

func number(n int64) api.Term { return api.Term{Kind: api.Num, Int: n} }

func compound(name string, args []api.Term) api.Term {
	return api.Term{Kind: api.Comp, Name: name, Args: args}
}
