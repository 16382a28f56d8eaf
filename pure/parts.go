package pure

import (
	"pythia/api"
	"pythia/term"
)

func (j job) functor() Out {
	t, name, arity := j.args[0], j.args[1], j.args[2]
	if t.Kind == api.Var {
		return j.withArity(t, name, arity)
	}
	return alike(pair{name, nameOf(t)}, pair{arity, number(int64(len(t.Args)))})
}

// withArity makes a variable the term of a name with so many new arguments.
func (j job) withArity(t, name, arity api.Term) Out {
	switch {
	case name.Kind == api.Var || arity.Kind == api.Var:
		return unbound()
	case arity.Kind != api.Num:
		return wrongType("integer", arity)
	case arity.Int < 0:
		return belowZero(arity)
	case name.Kind == api.Comp:
		return wrongType("atomic", name)
	case arity.Int == 0:
		return alike(pair{t, name})
	case name.Kind == api.Num:
		return wrongType("callable", name)
	case arity.Int > api.MaxArity:
		return tooManyArgs()
	}
	return alike(pair{t, compound(name.Name, j.newVars(arity.Int))})
}

// newVars are so many new variables.
func (j job) newVars(count int64) []api.Term {
	var vars []api.Term
	for i := range count {
		vars = append(vars, api.Term{Kind: api.Var, Int: j.fresh + i})
	}
	return vars
}

func (j job) arg() Out {
	n, t, a := j.args[0], j.args[1], j.args[2]
	switch {
	case n.Kind == api.Var || t.Kind == api.Var:
		return unbound()
	case n.Kind != api.Num:
		return wrongType("integer", n)
	case t.Kind != api.Comp:
		return wrongType("compound", t)
	case n.Int < 0:
		return belowZero(n)
	case n.Int == 0 || n.Int > int64(len(t.Args)):
		return told(false)
	}
	return alike(pair{a, t.Args[n.Int-1]})
}

func (j job) univ() Out {
	t, list := j.args[0], j.args[1]
	if t.Kind == api.Var {
		return ofItems(t, list)
	}
	items := append([]api.Term{nameOf(t)}, t.Args...)
	parts, _ := term.List(items, atom(nilName)) // no right term, if they are too great for a list
	return alike(pair{list, parts})
}

// ofItems makes a variable the term that a list's items name.
func ofItems(t, list api.Term) Out {
	items, end := term.Items(list)
	switch {
	case end.Kind == api.Var || len(items) > 0 && items[0].Kind == api.Var:
		return unbound()
	case !isNil(end):
		return wrongType("list", list)
	case len(items) == 0:
		return wrongDomain("non_empty_list", end)
	case len(items) == 1 && items[0].Kind == api.Comp:
		return wrongType("atomic", items[0])
	case len(items) == 1:
		return alike(pair{t, items[0]})
	case items[0].Kind != api.Atom:
		return wrongType("callable", items[0])
	case len(items)-1 > api.MaxArity:
		return tooManyArgs()
	}
	return alike(pair{t, compound(items[0].Name, items[1:])})
}

func (j job) copyTerm() Out {
	copied, _, _ := term.Rename(j.args[0], j.fresh)
	return alike(pair{j.args[1], copied})
}

// nameOf is the name of a term that is no variable: an atom, or the number itself.
func nameOf(t api.Term) api.Term {
	if t.Kind == api.Num {
		return t
	}
	return atom(t.Name)
}

// nilName is the atom that lists end in.
const nilName = "[]"

func isNil(t api.Term) bool { return t.Kind == api.Atom && t.Name == nilName }
