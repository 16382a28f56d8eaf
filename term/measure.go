package term

import "pythia/api"

// measure is what is known of a term that is gone through.
type measure struct {
	size  int
	depth int
}

// isRight tells whether a term is right.
func isRight(t api.Term) bool {
	_, _, ok := measured(t)
	return ok
}

// measured is a term's size and depth; false, if it isn't right.
func measured(t api.Term) (int, int, bool) {
	var m measure
	if !m.add(t, 1) {
		return 0, 0, false
	}
	return m.size, m.depth, true
}

// add goes through a part of a term, which stands so deep. It ends at the first thing that isn't right, since a term whose parts share memory may be without an end.
func (m *measure) add(t api.Term, depth int) bool {
	m.size++
	m.depth = max(m.depth, depth)
	if m.size > api.MaxSize || m.depth > api.MaxDepth {
		return false
	}
	switch t.Kind {
	case api.Var:
		return t.Int >= 1
	case api.Num:
		return true
	case api.Comp:
		if !m.addArgs(t.Args, depth+1) {
			return false
		}
		fallthrough // its name is held to what an atom's is held to
	case api.Atom:
		return len(t.Name) <= api.MaxName
	}
	return false
}

// addArgs goes through a compound term's arguments.
func (m *measure) addArgs(args []api.Term, depth int) bool {
	if len(args) == 0 || len(args) > api.MaxArity {
		return false
	}
	for _, arg := range args {
		if !m.add(arg, depth) {
			return false
		}
	}
	return true
}
