package arith_test

import (
	"slices"
	"strconv"
	"strings"
	"testing"

	"pythia/api"
	"pythia/arith"
)

// va, nu, at and co make a variable, a number, an atom, and a compound term.
func va(n int64) api.Term     { return api.Term{Kind: api.Var, Int: n} }
func nu(n int64) api.Term     { return api.Term{Kind: api.Num, Int: n} }
func at(name string) api.Term { return api.Term{Kind: api.Atom, Name: name} }
func co(name string, args ...api.Term) api.Term {
	return api.Term{Kind: api.Comp, Name: name, Args: args}
}

// The balls that Eval may answer.
func inst() api.Term              { return ball(at("instantiation_error")) }
func flawed(what string) api.Term { return ball(co("evaluation_error", at(what))) }
func ball(formal api.Term) api.Term {
	return co("error", formal, at("[]"))
}
func unknown(name string, args int) api.Term {
	return ball(co("type_error", at("evaluable"), co("/", at(name), nu(int64(args)))))
}

// tower is a term within so many of a function's calls.
func tower(name string, height int, t api.Term) api.Term {
	for range height {
		t = co(name, t)
	}
	return t
}

// sums is the sum of so many of a term.
func sums(n int, t api.Term) api.Term {
	if n == 1 {
		return t
	}
	return co("+", sums(n/2, t), sums(n-n/2, t))
}

// wrong are terms that aren't right.
func wrong() map[string]api.Term {
	long := strings.Repeat("x", 65)
	ring := make([]api.Term, 1)
	ring[0] = co("-", ring...)
	ring[0].Args = ring
	doubled := nu(1)
	for range 60 {
		doubled = co("+", doubled, doubled)
	}
	return map[string]api.Term{
		"the zero term":      {},
		"kind 5":             {Kind: 5, Int: 1, Name: "abs", Args: []api.Term{nu(1)}},
		"kind below 0":       {Kind: -1, Int: 1},
		"variable 0":         va(0),
		"variable below 0":   va(-1),
		"a long atom":        at(long),
		"a long name":        co(long, nu(1)),
		"no argument":        co("+"),
		"nine arguments":     co("+", slices.Repeat([]api.Term{nu(1)}, 9)...),
		"a wrong argument":   co("+", nu(1), api.Term{}),
		"a wrong one within": co("+", va(1), co("foo", co("-", va(0)), nu(1))),
		"too deep":           tower("-", 100, nu(1)),
		"too many symbols":   co("-", co("-", sums(1000, nu(1)))),
		"within itself":      ring[0],
		"2^60 numbers":       doubled,
	}
}

// untidy is the term with something in each field that its kinds don't name.
func untidy(t api.Term) api.Term {
	junk := []api.Term{{Kind: 9}, nu(7)}
	switch t.Kind {
	case api.Var, api.Num:
		t.Name, t.Args = strings.Repeat("?", 70), junk
	case api.Atom:
		t.Int, t.Args = -7, junk
	case api.Comp:
		t.Int = -7
		args := make([]api.Term, len(t.Args), len(t.Args)+2)
		for i, arg := range t.Args {
			args[i] = untidy(arg)
		}
		t.Args = args
	}
	return t
}

// same tells whether a term is just the other one, in all fields.
func same(a, b api.Term) bool {
	return a.Kind == b.Kind && a.Name == b.Name && a.Int == b.Int && slices.EqualFunc(a.Args, b.Args, same)
}

// text is a term as a text, to tell what went wrong.
func text(t api.Term) string {
	switch t.Kind {
	case api.Var:
		return "X" + strconv.FormatInt(t.Int, 10)
	case api.Num:
		return strconv.FormatInt(t.Int, 10)
	case api.Atom:
		return t.Name
	}
	var args []string
	for _, arg := range t.Args {
		args = append(args, text(arg))
	}
	return t.Name + "(" + strings.Join(args, ",") + ")"
}

// is fails, if a term isn't worth this number, or hasn't this ball, with and without something in the fields that its kinds don't name.
func is(t *testing.T, term api.Term, worth int64, ball api.Term, ok bool) {
	t.Helper()
	for _, u := range []api.Term{term, untidy(term)} {
		v, b, k := arith.Eval(u)
		if v != worth || !same(b, ball) || k != ok {
			t.Fatalf("%.200s is %d, %s, %v, not %d, %s, %v", text(term), v, text(b), k, worth, text(ball), ok)
		}
	}
}

// worth fails, if a term isn't worth this number.
func worth(t *testing.T, term api.Term, want int64) {
	t.Helper()
	is(t, term, want, api.Term{}, true)
}

// thrown fails, if a term hasn't this ball.
func thrown(t *testing.T, term, want api.Term) {
	t.Helper()
	is(t, term, 0, want, false)
}
