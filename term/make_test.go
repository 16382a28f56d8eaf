package term_test

import (
	"math/rand"
	"slices"
	"strconv"
	"strings"

	"pythia/api"
)

// va, nu, at and co make a variable, a number, an atom, and a compound term.
func va(n int64) api.Term     { return api.Term{Kind: api.Var, Int: n} }
func nu(n int64) api.Term     { return api.Term{Kind: api.Num, Int: n} }
func at(name string) api.Term { return api.Term{Kind: api.Atom, Name: name} }
func co(name string, args ...api.Term) api.Term {
	return api.Term{Kind: api.Comp, Name: name, Args: args}
}

// tower is t within so many s(..).
func tower(t api.Term, height int) api.Term {
	for range height {
		t = co("s", t)
	}
	return t
}

// sized is a term with so many symbols, whose variables, numbers and atoms are all t.
func sized(size int, t api.Term) api.Term {
	if size == 1 {
		return t
	}
	var args []api.Term
	rest := size - 1
	for n := min(rest, 8); n > 0; n-- {
		args = append(args, sized(rest/n, t))
		rest -= rest / n
	}
	return co("w", args...)
}

// list is the list of some terms.
func list(tail api.Term, ts ...api.Term) api.Term {
	for i := len(ts) - 1; i >= 0; i-- {
		tail = co(".", ts[i], tail)
	}
	return tail
}

// inRing is a term within itself, by the memory that its arguments lie in.
func inRing() api.Term {
	args := make([]api.Term, 1)
	args[0] = co("s", args...)
	args[0].Args = args
	return args[0]
}

// doubled is a term whose arguments share memory: it has 2^height leaves.
func doubled(t api.Term, height int) api.Term {
	for range height {
		args := []api.Term{t, {}}
		args[1] = args[0]
		t = co("d", args...)
	}
	return t
}

// wrong are terms that aren't right.
func wrong() map[string]api.Term {
	long := strings.Repeat("x", 65)
	return map[string]api.Term{
		"the zero term":       {},
		"kind 5":              {Kind: 5, Name: "a", Args: []api.Term{at("a")}},
		"kind below 0":        {Kind: -1, Int: 1},
		"variable 0":          va(0),
		"variable below 0":    va(-1),
		"a long atom":         at(long),
		"a long name":         co(long, at("a")),
		"no argument":         co("f"),
		"nine arguments":      co("f", make9()...),
		"a wrong argument":    co("f", at("a"), api.Term{}),
		"a wrong one within":  co("f", at("a"), co("g", co("h", va(0)), at("b"))),
		"too deep":            tower(at("a"), 100),
		"too many symbols":    sized(2001, at("a")),
		"far too deep":        tower(at("a"), 1<<16),
		"within itself":       inRing(),
		"2^60 leaves":         doubled(at("a"), 60),
		"2^95 wrong leaves":   doubled(api.Term{}, 95),
		"2^99 of X1":          doubled(va(1), 99),
		"2^40000 leaves":      doubled(at("a"), 40000),
		"a million arguments": co("f", make([]api.Term, 1000000)...),
	}
}

func make9() []api.Term {
	var ts []api.Term
	for range 9 {
		ts = append(ts, at("a"))
	}
	return ts
}

// untidy is the term with something in each field that its kinds don't name.
func untidy(t api.Term) api.Term {
	junk := []api.Term{{Kind: 9}, inRing()}
	switch t.Kind {
	case api.Var, api.Num:
		t.Name, t.Args = strings.Repeat("?", 70), junk
	case api.Atom:
		t.Int, t.Args = -7, junk
	case api.Comp:
		t.Int = -7
		args := make([]api.Term, len(t.Args), len(t.Args)+2)
		for i, arg := range t.Args {
			args[i] = untidy(arg)
		}
		t.Args = args
	}
	return t
}

// anyTerm is some term at most so deep, over few symbols.
func anyTerm(r *rand.Rand, depth, vars int) api.Term {
	k := r.Intn(10)
	switch {
	case k < 4 && vars > 0:
		return va(1 + int64(r.Intn(vars)))
	case k < 5:
		return nu(int64(r.Intn(2)))
	case k < 6 || depth < 2:
		return at([]string{"a", "b"}[r.Intn(2)])
	case k < 8:
		return co("s", anyTerm(r, depth-1, vars))
	}
	return co([]string{"f", "."}[r.Intn(2)], anyTerm(r, depth-1, vars), anyTerm(r, depth-1, vars))
}

// tidy tells whether a term is just the other one, with nothing in the fields that its kinds don't name.
func tidy(got, want api.Term) bool {
	return got.Kind == want.Kind && got.Name == want.Name && got.Int == want.Int && slices.EqualFunc(got.Args, want.Args, tidy)
}

// tidyBinds tells whether bindings are just the others.
func tidyBinds(got, want []api.Bind) bool {
	return slices.EqualFunc(got, want, func(a, b api.Bind) bool { return a.Var == b.Var && tidy(a.To, b.To) })
}

// text is a term as a text, to tell what went wrong.
func text(t api.Term) string {
	switch t.Kind {
	case api.Var:
		return "X" + strconv.FormatInt(t.Int, 10)
	case api.Num:
		return strconv.FormatInt(t.Int, 10)
	case api.Atom:
		return t.Name
	}
	var args []string
	for _, arg := range t.Args {
		args = append(args, text(arg))
	}
	return t.Name + "/" + strconv.Itoa(t.Kind) + "(" + strings.Join(args, ",") + ")"
}

// texts are bindings as a text.
func texts(binds []api.Bind) string {
	var all []string
	for _, b := range binds {
		all = append(all, text(va(b.Var))+"="+text(b.To))
	}
	return strings.Join(all, "; ")
}
