package base_test

import (
	"math/rand"
	"reflect"
	"slices"
	"strconv"
	"strings"
	"testing"

	"pythia/api"
	"pythia/base"
)

// va, nu, at and co make a variable, a number, an atom, and a compound term.
func va(n int64) api.Term     { return api.Term{Kind: api.Var, Int: n} }
func nu(n int64) api.Term     { return api.Term{Kind: api.Num, Int: n} }
func at(name string) api.Term { return api.Term{Kind: api.Atom, Name: name} }
func co(name string, args ...api.Term) api.Term {
	return api.Term{Kind: api.Comp, Name: name, Args: args}
}

// cl and fact make a clause.
func cl(head, body api.Term) api.Clause { return api.Clause{Head: head, Body: body} }
func fact(head api.Term) api.Clause     { return cl(head, at("true")) }

// pred makes a predicate.
func pred(name string, arity int) api.Pred { return api.Pred{Name: name, Arity: arity} }

// tower is a term within so many s(..).
func tower(t api.Term, height int) api.Term {
	for range height {
		t = co("s", t)
	}
	return t
}

// sized is a term with so many symbols, the atom a at each end.
func sized(size int) api.Term {
	if size == 1 {
		return at("a")
	}
	var args []api.Term
	rest := size - 1
	for n := min(rest, 8); n > 0; n-- {
		args = append(args, sized(rest/n))
		rest -= rest / n
	}
	return co("w", args...)
}

// doubled is a term whose arguments share memory: it has 2^height leaves.
func doubled(t api.Term, height int) api.Term {
	for range height {
		t = co("d", t, t)
	}
	return t
}

// ring is a term that lies within itself.
func ring() api.Term {
	args := make([]api.Term, 2)
	args[0], args[1] = at("a"), co("s")
	args[1].Args = args
	return args[1]
}

// wrong are terms that aren't right.
func wrong() map[string]api.Term {
	long := strings.Repeat("x", 65)
	return map[string]api.Term{
		"the zero term":      {},
		"kind 5":             {Kind: 5},
		"kind below 0":       {Kind: -1},
		"variable 0":         va(0),
		"a long atom":        at(long),
		"a long name":        co(long, at("a")),
		"no argument":        co("f"),
		"nine arguments":     co("f", slices.Repeat([]api.Term{at("a")}, 9)...),
		"a wrong one within": co("f", at("a"), co("g", co("h", va(0)), at("b"))),
		"too deep":           tower(at("a"), 100),
		"too many symbols":   sized(2001),
	}
}

// endless are terms that can't be written out.
func endless() map[string]api.Term {
	return map[string]api.Term{"within itself": ring(), "2^60 leaves": doubled(at("a"), 60)}
}

// untidy is the term with something in each field that its kinds don't name.
func untidy(t api.Term) api.Term {
	junk := []api.Term{{Kind: 9}, nu(7)}
	switch t.Kind {
	case api.Var, api.Num:
		t.Name, t.Args = strings.Repeat("?", 70), junk
	case api.Atom:
		t.Int, t.Args = -7, junk
	case api.Comp:
		t.Int = -7
		t.Args = slices.Clone(t.Args)
		for i, arg := range t.Args {
			t.Args[i] = untidy(arg)
		}
	default:
		t.Name, t.Int, t.Args = "?", 7, junk
	}
	return t
}

// anyTerm is some term at most so deep, over few symbols.
func anyTerm(r *rand.Rand, depth int) api.Term {
	k := r.Intn(10)
	switch {
	case k < 3:
		return va(1 + int64(r.Intn(4)))
	case k < 4:
		return nu(int64(r.Intn(2)))
	case k < 6 || depth < 2:
		return at([]string{"a", ":-"}[r.Intn(2)])
	case k < 7:
		return co("f", anyTerm(r, depth-1))
	}
	return co([]string{"f", ":-"}[r.Intn(2)], anyTerm(r, depth-1), anyTerm(r, depth-1))
}

// renamed is a clause whose variables are 1, 2, .. in the order in which they stand in it.
func renamed(c api.Clause) api.Clause {
	names := map[int64]int64{}
	return cl(named(c.Head, names), named(c.Body, names))
}

func named(t api.Term, names map[int64]int64) api.Term {
	switch t.Kind {
	case api.Var:
		if names[t.Int] == 0 {
			names[t.Int] = int64(len(names) + 1)
		}
		return va(names[t.Int])
	case api.Comp:
		var args []api.Term
		for _, arg := range t.Args {
			args = append(args, named(arg, names))
		}
		return co(t.Name, args...)
	}
	return t
}

// same tells whether two terms are alike in all fields; no list and an empty one are.
func same(a, b api.Term) bool {
	return a.Kind == b.Kind && a.Name == b.Name && a.Int == b.Int && slices.EqualFunc(a.Args, b.Args, same)
}

func sameClause(a, b api.Clause) bool { return same(a.Head, b.Head) && same(a.Body, b.Body) }

func sameFound(a, b []base.Found) bool {
	return slices.EqualFunc(a, b, func(x, y base.Found) bool { return x.Id == y.Id && sameClause(x.Clause, y.Clause) })
}

func sameAnswer(a, b base.Answer) bool {
	return a.Err == b.Err && a.Ok == b.Ok && a.Id == b.Id && a.Stamp == b.Stamp && sameFound(a.Found, b.Found)
}

// roomy is a term in new memory, whose lists of arguments have spare room with a mark in it.
func roomy(t api.Term) api.Term {
	if t.Kind != api.Comp {
		return t
	}
	args := make([]api.Term, 0, len(t.Args)+1)
	for _, arg := range t.Args {
		args = append(args, roomy(arg))
	}
	t.Args = append(args, at("spare"))[:len(args)]
	return t
}

func roomyClause(c api.Clause) api.Clause { return cl(roomy(c.Head), roomy(c.Body)) }

// unspoilt tells whether a term that roomy made is still the one that it was made of, its spare room too.
func unspoilt(t, was api.Term) bool { return reflect.DeepEqual(spread(t), spread(roomy(was))) }

// spread is all memory of a term, its spare room too.
func spread(t api.Term) []any {
	all := []any{t.Kind, t.Name, t.Int, len(t.Args)}
	for _, arg := range t.Args[:cap(t.Args)] {
		all = append(all, spread(arg))
	}
	return all
}

// spoil writes over all memory of terms, their spare room too.
func spoil(terms ...api.Term) {
	for _, t := range terms {
		spoil(t.Args...)
		room := t.Args[:cap(t.Args)]
		for i := range room {
			room[i] = nu(-99)
		}
	}
}

// text is a term as a text, to tell what went wrong.
func text(t api.Term) string {
	switch t.Kind {
	case api.Var:
		return "X" + strconv.FormatInt(t.Int, 10)
	case api.Num:
		return strconv.FormatInt(t.Int, 10)
	case api.Atom:
		return t.Name
	}
	var args []string
	for _, arg := range t.Args {
		args = append(args, text(arg))
	}
	return t.Name + "(" + strings.Join(args, ",") + ")"
}

// made is a DB.
func made(t *testing.T, room, bound int) *base.DB {
	t.Helper()
	d, e := base.New(room, bound)
	if d == nil || e != api.OK {
		t.Fatalf("New(%d, %d) = %v, %d", room, bound, d, e)
	}
	return d
}

// roomyDB is a DB with as much room as may be.
func roomyDB(t *testing.T) *base.DB { return made(t, api.MaxCells, api.MaxLimbo) }

// run steps an operation to its end.
func run(o *base.Op) base.Answer {
	for !o.Step() {
	}
	return o.Answer()
}

// ends fails, if an operation doesn't end so.
func ends(t *testing.T, o *base.Op, want base.Answer) {
	t.Helper()
	if got := run(o); !sameAnswer(got, want) || !o.Over() || o.Done() != (want.Err == api.OK) {
		t.Fatalf("ended with %v, Done %v; not %v", got, o.Done(), want)
	}
}

// adds asserts clauses, and fails, if one isn't.
func adds(t *testing.T, d *base.DB, front bool, cs ...api.Clause) {
	t.Helper()
	for _, c := range cs {
		if a := run(d.Assert(1, c, front)); !a.Ok {
			t.Fatalf("Assert of %s: %v", text(c.Head), a)
		}
	}
}

// erases erases clauses by their numbers, and fails, if one isn't there.
func erases(t *testing.T, d *base.DB, p api.Pred, ids ...int64) {
	t.Helper()
	for _, id := range ids {
		if a := run(d.Erase(1, p, id)); !a.Ok {
			t.Fatalf("Erase of %d: %v", id, a)
		}
	}
}

// lists fails, if a predicate hasn't these clauses now.
func lists(t *testing.T, d *base.DB, p api.Pred, want ...base.Found) {
	t.Helper()
	if got := d.List(p); !sameFound(got, want) {
		t.Fatalf("List(%v) = %v, not %v", p, got, want)
	}
}

// known fails, if these aren't the predicates that there are.
func known(t *testing.T, d *base.DB, want ...api.Pred) {
	t.Helper()
	if got := d.Preds(); !slices.Equal(got, want) {
		t.Fatalf("Preds = %v, not %v", got, want)
	}
	for _, p := range want {
		if !d.Is(p) {
			t.Fatalf("Is(%v) = false", p)
		}
	}
}
