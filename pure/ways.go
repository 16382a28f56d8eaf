package pure

import (
	"slices"

	"pythia/api"
	"pythia/arith"
	"pythia/term"
)

// job is a goal that is done.
type job struct {
	args  []api.Term // in memory of its own
	fresh int64      // the number of the first new variable
}

// way is how the goals of a predicate are done.
type way func(j job) Out

// wayOf is a predicate's way; nil, if this layer doesn't know it.
func wayOf(p api.Pred) way {
	switch p.Arity {
	case 0:
		return ofNone(p.Name)
	case 1:
		return ofOne(p.Name)
	case 2:
		return ofTwo(p.Name)
	case 3:
		return ofThree(p.Name)
	}
	return nil
}

// ofNone is the way of goals without arguments.
func ofNone(name string) way {
	switch name {
	case "true":
		return func(job) Out { return told(true) }
	case "fail", "false":
		return func(job) Out { return told(false) }
	}
	return nil
}

// ofOne is the way of goals with one argument.
func ofOne(name string) way {
	switch name {
	case "var":
		return isOf(api.Var)
	case "nonvar":
		return isOf(api.Num, api.Atom, api.Comp)
	case "atom":
		return isOf(api.Atom)
	case "integer", "number":
		return isOf(api.Num)
	case "compound":
		return isOf(api.Comp)
	case "atomic":
		return isOf(api.Num, api.Atom)
	case "callable":
		return isOf(api.Atom, api.Comp)
	case "is_list":
		return job.isList
	}
	return nil
}

// ofTwo is the way of goals with two arguments.
func ofTwo(name string) way {
	switch name {
	case "=":
		return job.unite
	case `\=`:
		return job.differ
	case "==":
		return stands(0)
	case `\==`:
		return stands(-1, 1)
	case "@<":
		return stands(-1)
	case "@=<":
		return stands(-1, 0)
	case "@>":
		return stands(1)
	case "@>=":
		return stands(0, 1)
	case "is":
		return job.is
	case "=..":
		return job.univ
	case "copy_term":
		return job.copyTerm
	default:
		if _, known := arith.Holds(name, 0, 0); known {
			return holds(name)
		}
	}
	return nil
}

// ofThree is the way of goals with three arguments.
func ofThree(name string) way {
	switch name {
	case "compare":
		return job.compare
	case "functor":
		return job.functor
	case "arg":
		return job.arg
	}
	return nil
}

// isOf tests whether the argument is of one of these kinds.
func isOf(kinds ...int) way {
	return func(j job) Out { return told(slices.Contains(kinds, j.args[0].Kind)) }
}

// stands tests whether the first argument stands to the second one in one of these orders.
func stands(orders ...int) way {
	return func(j job) Out { return told(slices.Contains(orders, term.Order(j.args[0], j.args[1]))) }
}

// holds compares what two terms are worth.
func holds(name string) way {
	return func(j job) Out {
		a, ball, ok := arith.Eval(j.args[0])
		if !ok {
			return Out{Ball: ball}
		}
		b, ball, ok := arith.Eval(j.args[1])
		if !ok {
			return Out{Ball: ball}
		}
		holds, _ := arith.Holds(name, a, b)
		return told(holds)
	}
}

func (j job) isList() Out {
	_, end := term.Items(j.args[0])
	return told(isNil(end))
}

func (j job) unite() Out { return alike(pair{j.args[0], j.args[1]}) }

// differ holds a solution that is too great to be told for one.
func (j job) differ() Out {
	_, ok, err := term.Solve(j.args[0], j.args[1])
	return told(!ok && err == api.OK)
}

func (j job) is() Out {
	worth, ball, ok := arith.Eval(j.args[1])
	if !ok {
		return Out{Ball: ball}
	}
	return alike(pair{j.args[0], number(worth)})
}

func (j job) compare() Out {
	sign := "="
	switch term.Order(j.args[1], j.args[2]) {
	case -1:
		sign = "<"
	case 1:
		sign = ">"
	}
	return alike(pair{j.args[0], atom(sign)})
}
