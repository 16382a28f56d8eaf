package kernel

import (
	"pythia/api"
	"pythia/arith"
	"pythia/term"
)

func atom(name string) api.Term { return api.Term{Kind: api.Atom, Name: name} }

func number(n int64) api.Term { return api.Term{Kind: api.Num, Int: n} }

func compound(name string, args ...api.Term) api.Term {
	return api.Term{Kind: api.Comp, Name: name, Args: args}
}

// named is a predicate as a term.
func named(p api.Pred) api.Term { return compound("/", atom(p.Name), number(int64(p.Arity))) }

// isTooGreat tells whether a right term is so great that what is told of it might be no right term.
func isTooGreat(t api.Term) bool {
	return term.Depth(t) > api.MaxDepth-4 || term.Size(t) > api.MaxSize-10
}

func unbound() api.Term { return arith.Fault("instantiation_error") }

func wrongType(wanted string, t api.Term) api.Term { return arith.Fault("type_error", atom(wanted), t) }

func missing(kind string, t api.Term) api.Term { return arith.Fault("existence_error", atom(kind), t) }

func forbidden(action, kind string, t api.Term) api.Term {
	return arith.Fault("permission_error", atom(action), atom(kind), t)
}

func exhausted(what string) api.Term { return arith.Fault("resource_error", atom(what)) }
