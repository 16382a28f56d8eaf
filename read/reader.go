package read

import (
	"pythia/api"
	"pythia/fault"
	"pythia/ops"
	"pythia/term"
)

// none is the kind of what stands behind the last token.
const none = 0

// The greatest precedences of what stands alone or in brackets, and of what stands between commas.
const (
	mostAlone = 1200
	mostArg   = 999
)

// reader reads tokens from the left to the right.
type reader struct {
	table  *ops.Table
	tokens []api.Token // the last one is of kind none, and stands at the text's end
	at     int         // the next one
	depth  int         // how many terms are under way
	names  []string    // the names of the variables of the whole term under way
	vars   map[string]int64
}

// part is what has been read of a term, and its precedence.
type part struct {
	term api.Term
	prec int
}

func (r *reader) next() api.Token { return r.tokens[r.at] }

// unfit is the error of the next token, which can't stand where it does.
func (r *reader) unfit() error {
	if r.next().Kind == none {
		return fault.New(api.ErrEnd, r.next().At)
	}
	return fault.New(api.ErrSyntax, r.next().At)
}

// nextIs tells whether this stands next, and isn't a name.
func (r *reader) nextIs(punct string) bool {
	return r.next().Kind == api.TPunct && r.next().Text == punct
}

// skip goes over what stands next, if it is this.
func (r *reader) skip(punct string) bool {
	is := r.nextIs(punct)
	if is {
		r.at++
	}
	return is
}

// close goes over what has to stand next.
func (r *reader) close(punct string) error {
	if !r.skip(punct) {
		return r.unfit()
	}
	return nil
}

// whole reads a term with the full stop behind it.
func (r *reader) whole() (api.Read, error) {
	r.names, r.vars = nil, map[string]int64{}
	at := r.next().At
	t, err := r.term(mostAlone)
	switch {
	case err != nil:
		return api.Read{}, err
	case r.next().Kind != api.TEnd:
		return api.Read{}, r.unfit()
	case term.Check(t) != api.OK:
		return api.Read{}, fault.New(api.ErrLong, at)
	}
	r.at++
	return api.Read{Term: t, Names: r.names, At: at}, nil
}

// term reads a term of at most a precedence.
func (r *reader) term(most int) (api.Term, error) {
	if r.depth == api.MaxDepth && r.next().Kind != none {
		return api.Term{}, fault.New(api.ErrDeep, r.next().At)
	}
	r.depth++
	defer func() { r.depth-- }()
	p, err := r.first(most)
	for err == nil {
		o, is := r.after(most, p.prec)
		if !is {
			return p.term, nil
		}
		p, err = r.goOn(p, o)
	}
	return api.Term{}, err
}

// after is the infix or postfix operator that stands next, if it may go on behind a part of a precedence, in a term of at most another.
func (r *reader) after(most, prec int) (api.Op, bool) {
	if !isPlain(r.next()) && !r.nextIs(",") {
		return api.Op{}, false
	}
	o, is := r.table.After(r.next().Text)
	left, _ := ops.Sides(o)
	return o, is && o.Prec <= most && left >= prec
}

// goOn reads an infix or postfix operator, and what it wants behind it.
func (r *reader) goOn(p part, o api.Op) (part, error) {
	r.at++
	args := []api.Term{p.term}
	if _, right := ops.Sides(o); right >= 0 {
		t, err := r.term(right)
		if err != nil {
			return part{}, err
		}
		args = append(args, t)
	}
	return part{term: compound(o.Name, args), prec: o.Prec}, nil
}

// isPlain tells whether a token is a name that isn't quoted.
func isPlain(t api.Token) bool { return t.Kind == api.TAtom && !t.Quoted }
