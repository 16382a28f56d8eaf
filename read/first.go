package read

import (
	"slices"

	"pythia/api"
	"pythia/ops"
)

// first reads a first part of a term of at most a precedence.
func (r *reader) first(most int) (part, error) {
	switch token := r.next(); {
	case token.Kind == api.TAtom:
		return r.named(most)
	case token.Kind == api.TInt:
		r.at++
		return number(token.Int), nil
	case token.Kind == api.TVar:
		r.at++
		return part{term: r.variable(token.Text)}, nil
	case r.skip("("):
		t, err := r.enclosed(")")
		return part{term: t}, err
	case r.skip("["):
		return r.list()
	case r.skip("{"):
		return r.curly()
	}
	return part{}, r.unfit()
}

// named reads a first part that begins with a name.
func (r *reader) named(most int) (part, error) {
	name := r.next()
	r.at++
	behind := r.next()
	if r.opens(r.at) {
		return r.call(name.Text)
	}
	if isPlain(name) && name.Text == "-" && behind.Kind == api.TInt && !behind.Apart {
		r.at++
		return number(-behind.Int), nil
	}
	o, is := r.table.Prefix(name.Text)
	if !is || name.Quoted || o.Prec > most || r.isAlone() {
		return atom(name.Text), nil
	}
	_, right := ops.Sides(o)
	t, err := r.term(right)
	if err != nil {
		return part{}, err
	}
	return part{term: compound(o.Name, []api.Term{t}), prec: o.Prec}, nil
}

// opens tells whether a token is a ( just behind another one.
func (r *reader) opens(at int) bool {
	t := r.tokens[at]
	return t.Kind == api.TPunct && t.Text == "(" && !t.Apart
}

// isAlone tells whether a prefix operator is an atom, by what stands next.
func (r *reader) isAlone() bool {
	switch t := r.next(); t.Kind {
	case none, api.TEnd:
		return true
	case api.TPunct:
		return t.Text != "(" && t.Text != "[" && t.Text != "{"
	case api.TAtom:
		_, isAfter := r.table.After(t.Text)
		_, isPrefix := r.table.Prefix(t.Text)
		return !t.Quoted && isAfter && !isPrefix && !r.opens(r.at+1)
	}
	return false
}

// call reads a compound term, whose name is read.
func (r *reader) call(name string) (part, error) {
	r.at++
	args, err := r.terms()
	if err == nil {
		err = r.close(")")
	}
	if err != nil {
		return part{}, err
	}
	return part{term: compound(name, args)}, nil
}

// list reads a list, whose [ is read.
func (r *reader) list() (part, error) {
	end := atom("[]")
	if r.skip("]") {
		return end, nil
	}
	items, err := r.terms()
	if err != nil {
		return part{}, err
	}
	if r.skip("|") {
		end.term, err = r.term(mostArg)
	}
	if err == nil {
		err = r.close("]")
	}
	if err != nil {
		return part{}, err
	}
	for _, item := range slices.Backward(items) {
		end.term = compound(".", []api.Term{item, end.term})
	}
	return end, nil
}

// curly reads what stands in curly brackets, the first of which is read.
func (r *reader) curly() (part, error) {
	if r.skip("}") {
		return atom("{}"), nil
	}
	t, err := r.enclosed("}")
	if err != nil {
		return part{}, err
	}
	return part{term: compound("{}", []api.Term{t})}, nil
}

// enclosed reads a term and what closes it.
func (r *reader) enclosed(punct string) (api.Term, error) {
	t, err := r.term(mostAlone)
	if err == nil {
		err = r.close(punct)
	}
	if err != nil {
		return api.Term{}, err
	}
	return t, nil
}

// terms reads terms with commas between.
func (r *reader) terms() ([]api.Term, error) {
	var all []api.Term
	for {
		t, err := r.term(mostArg)
		if err != nil {
			return nil, err
		}
		all = append(all, t)
		if !r.skip(",") {
			return all, nil
		}
	}
}

// variable is the variable of a name, a new one at each "_".
func (r *reader) variable(name string) api.Term {
	n, is := r.vars[name]
	if !is || name == "_" {
		r.names = append(r.names, name)
		n = int64(len(r.names))
		r.vars[name] = n
	}
	return api.Term{Kind: api.Var, Int: n}
}

func number(n int64) part { return part{term: api.Term{Kind: api.Num, Int: n}} }

func atom(name string) part { return part{term: api.Term{Kind: api.Atom, Name: name}} }

func compound(name string, args []api.Term) api.Term {
	return api.Term{Kind: api.Comp, Name: name, Args: args}
}
