package pure_test

import (
	"math"
	"slices"
	"strconv"
	"strings"
	"testing"

	"pythia/api"
	"pythia/pure"
)

const (
	least    = math.MinInt64
	greatest = math.MaxInt64
	mostVar  = 1 << 60
)

// va, nu, at and co make a variable, a number, an atom, and a compound term.
func va(n int64) api.Term     { return api.Term{Kind: api.Var, Int: n} }
func nu(n int64) api.Term     { return api.Term{Kind: api.Num, Int: n} }
func at(name string) api.Term { return api.Term{Kind: api.Atom, Name: name} }
func co(name string, args ...api.Term) api.Term {
	return api.Term{Kind: api.Comp, Name: name, Args: args}
}

// list is the list of some terms, partial is one that ends in another term than the atom [].
func list(ts ...api.Term) api.Term { return partial(at("[]"), ts...) }

func partial(end api.Term, ts ...api.Term) api.Term {
	for _, t := range slices.Backward(ts) {
		end = co(".", t, end)
	}
	return end
}

// times is a list of a term so many times.
func times(n int, t api.Term) []api.Term { return slices.Repeat([]api.Term{t}, n) }

// vars are the variables from one number to another one.
func vars(from, to int64) []api.Term {
	var ts []api.Term
	for v := from; v <= to; v++ {
		ts = append(ts, va(v))
	}
	return ts
}

// goalOf is the goal of a name and arguments: an atom, if there are none.
func goalOf(name string, args ...api.Term) api.Term {
	if len(args) == 0 {
		return at(name)
	}
	return co(name, args...)
}

// tower is a term so deep, with t within.
func tower(depth int, t api.Term) api.Term {
	for range depth - 1 {
		t = co("s", t)
	}
	return t
}

// sized is a term with so many symbols, t at each end.
func sized(size int, t api.Term) api.Term {
	if size == 1 {
		return t
	}
	var args []api.Term
	rest := size - 1
	for n := min(rest, 8); n > 0; n-- {
		args = append(args, sized(rest/n, t))
		rest -= rest / n
	}
	return co("w", args...)
}

// wrong are terms that aren't right.
func wrong() map[string]api.Term {
	long := strings.Repeat("x", 65)
	ring := make([]api.Term, 1)
	ring[0] = co("s", ring...)
	ring[0].Args = ring
	doubled := nu(1)
	for range 60 {
		doubled = co("d", doubled, doubled)
	}
	return map[string]api.Term{
		"the zero term":      {},
		"kind 5":             {Kind: 5, Int: 1, Name: "a"},
		"kind below 0":       {Kind: -1, Int: 1},
		"variable 0":         va(0),
		"variable below 0":   va(least),
		"a long atom":        at(long),
		"a long name":        co(long, nu(1)),
		"no argument":        co("f"),
		"nine arguments":     co("f", times(9, nu(1))...),
		"a wrong argument":   co("f", nu(1), api.Term{}),
		"a wrong one within": co("f", va(1), co("g", co("h", va(0)), nu(1))),
		"too deep":           tower(101, at("a")),
		"too many symbols":   sized(2001, at("a")),
		"within itself":      ring[0],
		"2^60 leaves":        doubled,
	}
}

// untidy is the term with something in each field that its kinds don't name.
func untidy(t api.Term) api.Term {
	junk := []api.Term{{Kind: 9}, nu(7)}
	switch t.Kind {
	case api.Var, api.Num:
		t.Name, t.Args = "true", junk
	case api.Atom:
		t.Int, t.Args = -7, junk
	case api.Comp:
		t.Int = -7
		t.Args = slices.Clone(t.Args)
		for i, arg := range t.Args {
			t.Args[i] = untidy(arg)
		}
	}
	return t
}

// same tells whether two terms are alike in all fields; no list and an empty one are.
func same(a, b api.Term) bool {
	return a.Kind == b.Kind && a.Name == b.Name && a.Int == b.Int && sameTerms(a.Args, b.Args)
}

func sameTerms(a, b []api.Term) bool { return slices.EqualFunc(a, b, same) }

func sameOut(a, b pure.Out) bool {
	return a.Ok == b.Ok && sameTerms(a.Left, b.Left) && sameTerms(a.Right, b.Right) && same(a.Ball, b.Ball)
}

// yes, no, unites and throws are what may come of a goal; unites takes what stands left and right by turns.
func yes() pure.Out { return pure.Out{Ok: true} }
func no() pure.Out  { return pure.Out{} }

func unites(ts ...api.Term) pure.Out {
	out := yes()
	for pair := range slices.Chunk(ts, 2) {
		out.Left = append(out.Left, pair[0])
		out.Right = append(out.Right, pair[1])
	}
	return out
}

func throws(formal api.Term) pure.Out { return pure.Out{Ball: co("error", formal, at("[]"))} }

// holding is what comes of a test.
func holding(holds bool) pure.Out { return pure.Out{Ok: holds} }

// The balls that there are.
func inst() pure.Out                          { return throws(at("instantiation_error")) }
func typed(kind string, t api.Term) pure.Out  { return throws(co("type_error", at(kind), t)) }
func domain(kind string, t api.Term) pure.Out { return throws(co("domain_error", at(kind), t)) }
func belowZero(n int64) pure.Out              { return domain("not_less_than_zero", nu(n)) }
func tooMany() pure.Out                       { return throws(co("representation_error", at("max_arity"))) }
func flawed(what string) pure.Out             { return throws(co("evaluation_error", at(what))) }
func noFunction(name string, args int) pure.Out {
	return typed("evaluable", co("/", at(name), nu(int64(args))))
}

// does fails, if a goal doesn't end so, with and without something in the fields that its kinds don't name.
func does(t *testing.T, goal api.Term, want pure.Out) {
	t.Helper()
	for _, g := range []api.Term{goal, untidy(goal)} {
		if got, ok := pure.Do(g); !sameOut(got, want) || !ok {
			t.Fatalf("%.300s: %.300s, %v, not %.300s", text(goal), textOut(got), ok, textOut(want))
		}
	}
}

// refuses fails, if anything is told of a goal.
func refuses(t *testing.T, what string, goal api.Term) {
	t.Helper()
	if got, ok := pure.Do(goal); !sameOut(got, no()) || ok {
		t.Fatalf("%s: %.300s, %v", what, textOut(got), ok)
	}
}

// text is a term as a text, to tell what went wrong.
func text(t api.Term) string {
	switch t.Kind {
	case api.Var:
		return "X" + strconv.FormatInt(t.Int, 10)
	case api.Num:
		return strconv.FormatInt(t.Int, 10)
	case api.Atom:
		return t.Name
	}
	return t.Name + "(" + texts(t.Args) + ")"
}

func texts(ts []api.Term) string {
	var all []string
	for _, t := range ts {
		all = append(all, text(t))
	}
	return strings.Join(all, ",")
}

func textOut(out pure.Out) string {
	return strconv.FormatBool(out.Ok) + " [" + texts(out.Left) + "] = [" + texts(out.Right) + "], ball " + text(out.Ball)
}

// preds are all predicates that this layer knows.
func preds() []api.Pred {
	var all []api.Pred
	for arity, names := range []string{
		"true fail false",
		"var nonvar atom integer number compound atomic callable is_list",
		`= \= == \== @< @=< @> @>= is =:= =\= < =< > >= =.. copy_term`,
		"compare functor arg",
	} {
		for name := range strings.FieldsSeq(names) {
			all = append(all, api.Pred{Name: name, Arity: arity})
		}
	}
	return all
}
