package kernel

import (
	"slices"

	"pythia/api"
	"pythia/base"
	"pythia/pure"
	"pythia/term"
)

// isStatic tells whether the clauses of a predicate can neither be changed nor looked into.
func (k *Kernel) isStatic(p api.Pred) bool {
	_, told := k.static[p]
	return told || pure.Knows(p) || isControl(p)
}

// isControl tells whether a machine itself does the goals of a predicate (layer 19).
func isControl(p api.Pred) bool {
	switch p {
	case api.Pred{Name: ",", Arity: 2}, api.Pred{Name: ";", Arity: 2}, api.Pred{Name: "->", Arity: 2},
		api.Pred{Name: `\+`, Arity: 1}, api.Pred{Name: "!"}, api.Pred{Name: "catch", Arity: 3}, api.Pred{Name: "throw", Arity: 1}:
		return true
	}
	return p.Name == "call" && p.Arity > 0
}

// isWritten tells whether a term is written as a clause's head and body.
func isWritten(t api.Term) bool {
	p, _ := base.Of(t)
	return p == api.Pred{Name: ":-", Arity: 2}
}

// changing is the clause that the job's goal adds or takes away, and its predicate; without one the job ends with a ball.
func (j *Job) changing() (api.Clause, api.Pred, bool) {
	t := j.goal.Args[0]
	c, err := base.Clause(t)
	p, _ := base.Of(c.Head)
	switch {
	case t.Kind == api.Var || isWritten(t) && t.Args[0].Kind == api.Var:
		j.throw(unbound())
	case err != api.OK:
		j.throw(wrongType("callable", t))
	case j.kernel.isStatic(p):
		j.throw(forbidden("modify", "static_procedure", named(p)))
	default:
		return c, p, true
	}
	return api.Clause{}, api.Pred{}, false
}

func (j *Job) addBehind() { j.add("$add", false) }

func (j *Job) addAhead() { j.add("$push", true) }

// add adds a clause.
func (j *Job) add(entry string, front bool) {
	c, _, ok := j.changing()
	if !ok {
		return
	}
	k := j.kernel
	op := k.db.Assert(k.placeOf(j.thread), c, front)
	j.begin(operation{
		Op: op,
		entry: func() (api.Term, bool) {
			k.there[op.Id()] = struct{}{}
			return compound(entry, base.Term(c), number(op.Id())), true // renamed already: all of the goal's variables are its own
		},
		then: func(a base.Answer) { j.added(a.Err) },
	})
}

// added ends a job that has added a clause, or hasn't.
func (j *Job) added(err api.Errno) {
	switch err {
	case api.OK:
		j.finish(api.Reply{Ok: true})
	case api.ErrMany:
		j.throw(exhausted("clauses"))
	default:
		j.throw(exhausted("cells"))
	}
}

// read reads a predicate's clauses, and goes on with them.
func (j *Job) read(p api.Pred, then func(found []base.Found)) {
	k := j.kernel
	j.begin(operation{
		Op: k.db.All(k.placeOf(j.thread), p),
		entry: func() (api.Term, bool) {
			var ids []int64
			for _, f := range k.db.List(p) { // what it has just found: nothing was changed since
				ids = append(ids, f.Id)
			}
			return compound("$read", named(p), listed(ids)), len(ids) > 0
		},
		then: func(a base.Answer) {
			if a.Err != api.OK {
				j.throw(exhausted("cells"))
				return
			}
			then(a.Found)
		},
	})
}

// fitting are those clauses whose head and body these could be made the same as.
func fitting(c api.Clause, found []base.Found) []base.Found {
	// A clause's variables are numbered from 1 on, and no more than its symbols: behind MaxSize these are apart from every clause's.
	apart, _, _ := term.Rename(base.Term(c), api.MaxSize+1)
	return slices.DeleteFunc(found, func(f base.Found) bool {
		_, ok, err := term.Solve(apart, base.Term(f.Clause))
		return !ok && err != api.ErrLong // one that is too great is a solution, too
	})
}

// retract takes a clause away.
func (j *Job) retract() {
	c, p, ok := j.changing()
	if ok {
		j.read(p, func(found []base.Found) { j.takeFirst(p, fitting(c, found)) })
	}
}

// takeFirst takes away the first of some clauses that is still there.
func (j *Job) takeFirst(p api.Pred, found []base.Found) {
	if len(found) == 0 {
		j.finish(api.Reply{})
		return
	}
	k, first := j.kernel, found[0]
	j.prepare(operation{
		Op: k.db.Erase(k.placeOf(j.thread), p, first.Id),
		entry: func() (api.Term, bool) {
			_, ok := k.there[first.Id]
			delete(k.there, first.Id)
			return compound("$cut", named(p), number(first.Id)), ok
		},
		then: func(a base.Answer) {
			switch {
			case a.Err != api.OK:
				j.throw(exhausted("cells"))
			case a.Ok:
				j.finish(j.giving(asWritten(first.Clause, j.goal.Args[0])))
			default:
				j.takeFirst(p, found[1:])
			}
		},
	})
}

// asWritten is the term of a clause, written as another one is.
func asWritten(c api.Clause, as api.Term) api.Term {
	if isWritten(as) {
		return base.Term(c)
	}
	return c.Head
}

// lookInto tells the clauses that have a head and a body.
func (j *Job) lookInto() {
	head, body := j.goal.Args[0], j.goal.Args[1]
	p, _ := base.Of(head)
	switch {
	case head.Kind == api.Var:
		j.throw(unbound())
	case head.Kind == api.Num:
		j.throw(wrongType("callable", head))
	case j.kernel.isStatic(p):
		j.throw(forbidden("access", "private_procedure", named(p)))
	default:
		j.read(p, func(found []base.Found) {
			var alts []api.Term
			for _, f := range fitting(api.Clause{Head: head, Body: body}, found) {
				alts = append(alts, compound(j.goal.Name, f.Clause.Head, f.Clause.Body))
			}
			j.finish(api.Reply{Ok: len(alts) > 0, Alts: alts})
		})
	}
}

// tryClauses tells the clauses of the goal's predicate, if it is one of the DB's.
func (j *Job) tryClauses() {
	p, _ := base.Of(j.goal)
	if !j.kernel.db.Is(p) {
		j.throw(missing("procedure", named(p)))
		return
	}
	j.read(p, func(found []base.Found) {
		var alts []api.Term
		for _, f := range found {
			alts = append(alts, base.Term(f.Clause))
		}
		j.finish(api.Reply{Ok: len(alts) > 0, Alts: alts})
	})
}
