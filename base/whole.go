package base

import "pythia/api"

const (
	mostSymbols = 1 << 26 // so many are more than an answer can be
	mostNested  = 1 << 16
)

// whole is a term in new memory, right or not. One that can't be written out (it lies within itself, or its parts share so much memory that they would be too many) is the zero term.
func whole(t api.Term) api.Term {
	if counted(t, 0, map[list]int{}) > mostSymbols {
		return api.Term{}
	}
	return written(t)
}

// written is a term written out in new memory, without what its kinds don't name.
func written(t api.Term) api.Term {
	switch t.Kind {
	case api.Var, api.Num:
		return api.Term{Kind: t.Kind, Int: t.Int}
	case api.Atom:
		return api.Term{Kind: t.Kind, Name: t.Name}
	case api.Comp:
		var args []api.Term
		for _, arg := range t.Args {
			args = append(args, written(arg))
		}
		return api.Term{Kind: t.Kind, Name: t.Name, Args: args}
	}
	return api.Term{Kind: t.Kind}
}

// list is where a list of arguments lies.
type list struct {
	first *api.Term
	n     int
}

// counted is how many symbols a term has, or more than mostSymbols. Each list of arguments is gone through once; one that is come back to while it is gone through lies within itself.
func counted(t api.Term, depth int, seen map[list]int) int {
	if t.Kind != api.Comp || len(t.Args) == 0 {
		return 1
	}
	here := list{&t.Args[0], len(t.Args)}
	if n, ok := seen[here]; ok {
		return n
	}
	if seen[here] = mostSymbols + 1; depth > mostNested {
		return mostSymbols + 1
	}
	n := 1
	for _, arg := range t.Args {
		n = min(n+counted(arg, depth+1, seen), mostSymbols+1)
	}
	seen[here] = n
	return n
}
