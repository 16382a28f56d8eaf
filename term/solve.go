package term

import (
	"cmp"
	"slices"

	"pythia/api"
)

// Solve is the most general solution of two terms.
func Solve(a, b api.Term) ([]api.Bind, bool, api.Errno) {
	if !isRight(a) || !isRight(b) {
		return nil, false, api.ErrTerm
	}
	s := solution{vars: map[int64]int{}}
	if !s.unite(s.add(a), s.add(b)) || !s.isFinite() {
		return nil, false, api.OK
	}
	if s.isTooGreat() {
		return nil, false, api.ErrLong
	}
	return s.binds(), true, api.OK
}

// solution is a solution under way: which parts of the two terms become the same. It never writes out a term as it becomes, which may be greater than the two terms are by any measure.
type solution struct {
	parts []part
	vars  map[int64]int // which part each variable is
}

// part is a variable, a number, an atom or a compound term that stands in one of the terms.
type part struct {
	term  api.Term // the arguments of a compound one stand in args
	args  []int
	same  int // a part that it becomes the same as; itself, if it stands for all that become the same
	state state
	size  int // of the term that it becomes; one above what may be, if it is greater
	depth int // of the term that it becomes
}

// state is how far a part is measured.
type state int

const (
	unmeasured state = iota
	underWay
	measuredWhole
)

// add adds a term and all of its parts, and answers which part it is.
func (s *solution) add(t api.Term) int {
	if t.Kind == api.Var {
		if at, ok := s.vars[t.Int]; ok {
			return at
		}
		s.vars[t.Int] = len(s.parts)
	}
	var args []int
	if t.Kind == api.Comp {
		for _, arg := range t.Args {
			args = append(args, s.add(arg))
		}
	}
	at := len(s.parts)
	s.parts = append(s.parts, part{term: t, args: args, same: at})
	return at
}

// of is the part that stands for all that become the same as a part.
func (s *solution) of(at int) int {
	for s.parts[at].same != at {
		s.parts[at].same = s.parts[s.parts[at].same].same // so that the way is shorter next time
		at = s.parts[at].same
	}
	return at
}

// unite lets two parts become the same, and with them their arguments; false, if they can't.
func (s *solution) unite(a, b int) bool {
	todo := [][2]int{{a, b}}
	for len(todo) > 0 {
		last := len(todo) - 1
		a, b := s.of(todo[last][0]), s.of(todo[last][1])
		todo = todo[:last]
		if a == b {
			continue
		}
		if s.standsFor(b, a) {
			a, b = b, a
		}
		if !s.standsFor(a, b) {
			return false
		}
		s.parts[b].same = a
		for i, arg := range s.parts[b].args {
			todo = append(todo, [2]int{s.parts[a].args[i], arg})
		}
	}
	return true
}

// standsFor tells whether a part can stand for another one, too: anything for a variable, but of variables the least one; else what has the same symbol.
func (s *solution) standsFor(a, b int) bool {
	x, y := s.parts[a].term, s.parts[b].term
	if y.Kind == api.Var {
		return x.Kind != api.Var || x.Int < y.Int
	}
	if x.Kind != y.Kind {
		return false
	}
	if x.Kind == api.Num {
		return x.Int == y.Int
	}
	return x.Name == y.Name && len(s.parts[a].args) == len(s.parts[b].args)
}

// isFinite tells whether no variable gets a term in which it stands itself, and measures what the variables become.
func (s *solution) isFinite() bool {
	for _, at := range s.vars {
		if !s.measure(at) {
			return false
		}
	}
	return true
}

// measure measures the term that a part becomes; false, if it stands within itself.
func (s *solution) measure(at int) bool {
	p := &s.parts[s.of(at)]
	if p.state != unmeasured {
		return p.state == measuredWhole
	}
	p.state = underWay
	p.size, p.depth = 1, 1
	for _, arg := range p.args {
		if !s.measure(arg) {
			return false
		}
		of := s.parts[s.of(arg)]
		p.size = min(p.size+of.size, api.MaxSize+1)
		p.depth = max(p.depth, of.depth+1)
	}
	p.state = measuredWhole
	return true
}

// isTooGreat tells whether a variable becomes a term that isn't right.
func (s *solution) isTooGreat() bool {
	for _, at := range s.vars {
		p := s.parts[s.of(at)]
		if p.size > api.MaxSize || p.depth > api.MaxDepth {
			return true
		}
	}
	return false
}

// binds are the variables that become another term, and these terms.
func (s *solution) binds() []api.Bind {
	var binds []api.Bind
	for v, at := range s.vars {
		if s.of(at) != at {
			binds = append(binds, api.Bind{Var: v, To: s.term(at)})
		}
	}
	slices.SortFunc(binds, func(a, b api.Bind) int { return cmp.Compare(a.Var, b.Var) })
	return binds
}

// term is the term that a part becomes.
func (s *solution) term(at int) api.Term {
	p := s.parts[s.of(at)]
	t := copied(api.Term{Kind: p.term.Kind, Name: p.term.Name, Int: p.term.Int}, variable)
	for _, arg := range p.args {
		t.Args = append(t.Args, s.term(arg))
	}
	return t
}
