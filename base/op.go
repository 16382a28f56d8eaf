package base

import (
	"pythia/api"
	"pythia/chain"
)

// Op is an operation: one of a chain, which is looked for at the first step, or one that is answered then.
type Op struct {
	*chain.Op                                  // none before the first step, nor if all was answered then
	begin     func() (*chain.Op, chain.Answer) // what the first step does; none behind it
	end       func(answer chain.Answer) Answer // what becomes of the chain's answer
	id        int64                            // of an Assert
	erased    map[int64]api.Clause             // of an All: what was erased while it read
	answer    Answer
}

// Answer is what an operation is answered.
type Answer struct {
	Err       api.Errno
	Ok        bool
	Id, Stamp int64
	Found     []Found
}

// Assert adds a clause.
func (d *DB) Assert(t int, c api.Clause, front bool) *Op {
	c, ok := kept(c)
	if !ok {
		return failing(api.ErrClause)
	}
	d.last++
	id := d.last
	p, _ := Of(c.Head)
	place := d.place(p)
	if place == 0 {
		return failing(api.ErrMany)
	}
	d.clauses[id] = c
	return &Op{
		id:    id,
		begin: func() (*chain.Op, chain.Answer) { return d.chains.Add(t, place, id, front), chain.Answer{} },
		end: func(a chain.Answer) Answer {
			if a.Err != api.OK {
				delete(d.clauses, id)
				return Answer{Err: a.Err}
			}
			return Answer{Ok: a.Ok, Id: id, Stamp: a.Stamp}
		},
	}
}

// failing is an operation that ends with an error at its first step.
func failing(err api.Errno) *Op {
	return &Op{
		begin: func() (*chain.Op, chain.Answer) { return nil, chain.Answer{Err: err} },
		end:   func(a chain.Answer) Answer { return Answer{Err: a.Err} },
	}
}

// Erase takes a clause away.
func (d *DB) Erase(t int, p api.Pred, id int64) *Op {
	return &Op{
		begin: func() (*chain.Op, chain.Answer) {
			if !d.Is(p) {
				return nil, chain.Answer{}
			}
			return d.chains.Cut(t, d.places[p], id), chain.Answer{}
		},
		end: func(a chain.Answer) Answer {
			if a.Ok {
				d.forget(id)
			}
			return Answer{Err: a.Err, Ok: a.Ok, Stamp: a.Stamp}
		},
	}
}

// All reads a predicate's clauses.
func (d *DB) All(t int, p api.Pred) *Op {
	o := &Op{erased: map[int64]api.Clause{}}
	o.begin = func() (*chain.Op, chain.Answer) {
		if !d.Is(p) {
			return nil, chain.Answer{Ok: true}
		}
		d.readers[o] = struct{}{}
		return d.chains.All(t, d.places[p]), chain.Answer{}
	}
	o.end = func(a chain.Answer) Answer {
		delete(d.readers, o)
		return Answer{Err: a.Err, Ok: a.Ok, Stamp: a.Stamp, Found: d.found(a.Values, o.erased)}
	}
	return o
}

// found are the clauses of these numbers, which are there or were erased.
func (d *DB) found(ids []int64, erased map[int64]api.Clause) []Found {
	var found []Found
	for _, id := range ids {
		c, ok := d.clauses[id]
		if !ok {
			c = erased[id]
		}
		found = append(found, Found{Id: id, Clause: c})
	}
	return found
}

// Step does a step of an operation.
func (o *Op) Step() bool {
	switch {
	case o.begin != nil:
		o.first()
	case !o.Over() && o.Op.Step():
		o.answer = o.end(o.Op.Answer())
	}
	return o.Over()
}

// first begins the chain's operation and does its first step.
func (o *Op) first() {
	begun, answer := o.begin()
	o.begin = nil
	o.Op = begun
	if begun == nil {
		o.answer = o.end(answer)
	} else if begun.Step() {
		o.answer = o.end(begun.Answer())
	}
}

// Over tells whether an operation is over.
func (o *Op) Over() bool { return o.begin == nil && (o.Op == nil || o.Op.Over()) }

// Done tells whether an operation has taken effect.
func (o *Op) Done() bool {
	if o.Op == nil {
		return o.Over() && o.answer.Err == api.OK
	}
	return o.Op.Done()
}

// Id is the number that an Assert's clause has.
func (o *Op) Id() int64 { return o.id }

// Answer is what an operation is answered.
func (o *Op) Answer() Answer {
	answer := o.answer
	answer.Found = nil
	for _, f := range o.answer.Found {
		answer.Found = append(answer.Found, Found{Id: f.Id, Clause: again(f.Clause)})
	}
	return answer
}
