package world

import (
	"pythia/api"
	"pythia/base"
	"pythia/fault"
	"pythia/kernel"
	"pythia/ops"
	"pythia/read"
	"pythia/wam"
)

// readProgram reads a program's clauses.
func readProgram(t *ops.Table, text string) ([]api.Clause, error) {
	reads, err := read.All(t, text)
	if err != nil {
		return nil, err
	}
	var clauses []api.Clause
	for _, r := range reads {
		c, err := base.Clause(r.Term)
		if err != api.OK {
			return nil, fault.New(api.ErrClause, r.At)
		}
		clauses = append(clauses, c)
	}
	return clauses, fault.New(refusal(clauses), 0)
}

// refusal is layer 19's error of a program.
func refusal(program []api.Clause) api.Errno {
	_, err := wam.New(program, api.Term{Kind: api.Atom, Name: "true"}, api.Limits{})
	return err
}

// readGoals reads goals, each over the operators that the one ahead of it has left.
func readGoals(t *ops.Table, texts []string) ([]api.Term, error) {
	var goals []api.Term
	for _, text := range texts {
		reads, err := read.All(t, text)
		if err != nil {
			return nil, err
		}
		if !isOneGoal(reads) {
			return nil, fault.New(api.ErrClause, 0)
		}
		goals = append(goals, reads[0].Term)
	}
	return goals, nil
}

// isOneGoal tells whether this is just one term, an atom or a compound one.
func isOneGoal(reads []api.Read) bool {
	if len(reads) != 1 {
		return false
	}
	_, ok := base.Of(reads[0].Term)
	return ok
}

// newKernel makes a kernel with threads that have these goals.
func newKernel(c api.Conf, program []api.Clause, goals []api.Term) (*kernel.Kernel, error) {
	var static []api.Pred
	for _, clause := range program {
		p, _ := base.Of(clause.Head)
		static = append(static, p)
	}
	k, err := kernel.New(c, static)
	if err != api.OK {
		return nil, fault.New(err, 0)
	}
	for _, g := range goals {
		if _, err := k.Spawn(g); err != api.OK {
			return nil, fault.New(err, 0)
		}
	}
	return k, nil
}
