package wam

import (
	"pythia/api"
	"pythia/base"
	"pythia/code"
	"pythia/pure"
)

// compiled is a program as code.
func compiled(program []api.Clause) (map[api.Pred][]*code.Code, api.Errno) {
	own := map[api.Pred][]*code.Code{}
	for _, clause := range program {
		c, err := code.Compile(clause)
		if err != api.OK {
			return nil, err
		}
		if pure.Knows(c.Pred) || isControl(c.Pred) {
			return nil, api.ErrStatic
		}
		own[c.Pred] = append(own[c.Pred], &c)
		if len(own) > api.MaxPreds || len(own[c.Pred]) > api.MaxClause {
			return nil, api.ErrMany
		}
	}
	return own, api.OK
}

// compiledTerms are clauses that are given as terms, as code.
func compiledTerms(terms []api.Term) ([]*code.Code, api.Errno) {
	var own []*code.Code
	for _, t := range terms {
		clause, err := base.Clause(t)
		if err != api.OK {
			return nil, api.ErrClause
		}
		c, err := code.Compile(clause)
		if err != api.OK { // its term may be too great, where the head alone isn't
			return nil, err
		}
		own = append(own, &c)
	}
	return own, api.OK
}

// isControl tells whether this layer itself does the goals of a predicate.
func isControl(p api.Pred) bool {
	return isAsCalled(p) || isCall(p) || p == catchPred() || p == throwPred()
}

// isAsCalled tells whether the goals of a predicate are done as a call of them.
func isAsCalled(p api.Pred) bool {
	switch p {
	case api.Pred{Name: ",", Arity: 2}, api.Pred{Name: ";", Arity: 2}, api.Pred{Name: "->", Arity: 2}, api.Pred{Name: `\+`, Arity: 1}, api.Pred{Name: "!"}:
		return true
	}
	return false
}

func isCall(p api.Pred) bool { return p.Name == "call" && p.Arity > 0 }

func catchPred() api.Pred { return api.Pred{Name: "catch", Arity: 3} }

func throwPred() api.Pred { return api.Pred{Name: "throw", Arity: 1} }
