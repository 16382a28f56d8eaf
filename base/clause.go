package base

import (
	"pythia/api"
	"pythia/term"
)

// neck is the name of a clause's term.
const neck = ":-"

// Of is a head's predicate.
func Of(head api.Term) (api.Pred, bool) {
	switch head.Kind {
	case api.Atom:
		return api.Pred{Name: head.Name}, true
	case api.Comp:
		return api.Pred{Name: head.Name, Arity: len(head.Args)}, true
	}
	return api.Pred{}, false
}

// Clause is the clause that a term is.
func Clause(t api.Term) (api.Clause, api.Errno) {
	if err := term.Check(t); err != api.OK {
		return api.Clause{}, err
	}
	c := parted(t)
	if !isClause(c) {
		return api.Clause{}, api.ErrClause
	}
	return api.Clause{Head: whole(c.Head), Body: whole(c.Body)}, api.OK
}

// parted is a term as a head and a body.
func parted(t api.Term) api.Clause {
	if t.Kind == api.Comp && t.Name == neck && len(t.Args) == 2 {
		return api.Clause{Head: t.Args[0], Body: t.Args[1]}
	}
	return api.Clause{Head: t, Body: api.Term{Kind: api.Atom, Name: "true"}}
}

// isClause tells whether a head and a body that are right are a clause's.
func isClause(c api.Clause) bool {
	_, ok := Of(c.Head)
	return ok && c.Body.Kind != api.Num
}

// Term is a clause's term.
func Term(c api.Clause) api.Term { return joined(whole(c.Head), whole(c.Body)) }

// joined is the term of a head and a body.
func joined(head, body api.Term) api.Term {
	return api.Term{Kind: api.Comp, Name: neck, Args: []api.Term{head, body}}
}

// kept is a clause as it is kept: renamed. None, if it isn't right.
func kept(c api.Clause) (api.Clause, bool) {
	t, _, err := term.Rename(joined(c.Head, c.Body), 1)
	if err != api.OK || !isClause(c) {
		return api.Clause{}, false
	}
	return api.Clause{Head: t.Args[0], Body: t.Args[1]}, true
}

// again is a clause in new memory.
func again(c api.Clause) api.Clause {
	return api.Clause{Head: whole(c.Head), Body: whole(c.Body)}
}
