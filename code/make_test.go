package code_test

import (
	"math/rand"
	"reflect"
	"slices"
	"strconv"
	"strings"
	"testing"

	"pythia/api"
	"pythia/base"
	"pythia/code"
	"pythia/ops"
	"pythia/read"
)

// va, nu, at and co make a variable, a number, an atom, and a compound term.
func va(n int64) api.Term     { return api.Term{Kind: api.Var, Int: n} }
func nu(n int64) api.Term     { return api.Term{Kind: api.Num, Int: n} }
func at(name string) api.Term { return api.Term{Kind: api.Atom, Name: name} }
func co(name string, args ...api.Term) api.Term {
	return api.Term{Kind: api.Comp, Name: name, Args: args}
}

// cl makes a clause.
func cl(head, body api.Term) api.Clause { return api.Clause{Head: head, Body: body} }

// headOf is the head of a name and arguments: an atom, if there are none.
func headOf(name string, args ...api.Term) api.Term {
	if len(args) == 0 {
		return at(name)
	}
	return co(name, args...)
}

// times is a list of a term so many times.
func times(n int, t api.Term) []api.Term { return slices.Repeat([]api.Term{t}, n) }

// tower is a term within so many of a name of one argument.
func tower(t api.Term, name string, height int) api.Term {
	for range height {
		t = co(name, t)
	}
	return t
}

// sized is a term with so many symbols, the atom a at each end.
func sized(size int) api.Term {
	if size == 1 {
		return at("a")
	}
	var args []api.Term
	rest := size - 1
	for n := min(rest, 8); n > 0; n-- {
		args = append(args, sized(rest/n))
		rest -= rest / n
	}
	return co("w", args...)
}

// wrong are terms that aren't right.
func wrong() map[string]api.Term {
	long := strings.Repeat("x", 65)
	ring := make([]api.Term, 2)
	ring[0], ring[1] = at("a"), co(",")
	ring[1].Args = ring
	doubled := at("a")
	for range 60 {
		doubled = co(",", doubled, doubled)
	}
	return map[string]api.Term{
		"the zero term":      {},
		"kind 5":             {Kind: 5, Name: "a"},
		"kind below 0":       {Kind: -1, Name: "a"},
		"variable 0":         va(0),
		"variable below 0":   va(-1 << 63),
		"a long atom":        at(long),
		"a long name":        co(long, at("a")),
		"no argument":        co("f"),
		"a cut with no":      co("!"),
		"a comma with one":   co(",", api.Term{}),
		"nine arguments":     co("f", times(9, at("a"))...),
		"a wrong one within": co(",", at("a"), co(";", co(`\+`, va(0)), at("b"))),
		"too deep":           tower(at("a"), `\+`, 100),
		"too many symbols":   sized(2001),
		"within itself":      ring[1],
		"2^60 leaves":        doubled,
	}
}

// untidy is the term with something in each field that its kinds don't name.
func untidy(t api.Term) api.Term {
	junk := []api.Term{{Kind: 9}, nu(7)}
	switch t.Kind {
	case api.Var, api.Num:
		t.Name, t.Args = "true", junk
	case api.Atom:
		t.Int, t.Args = -7, junk
	case api.Comp:
		t.Int = -7
		t.Args = slices.Clone(t.Args)
		for i, arg := range t.Args {
			t.Args[i] = untidy(arg)
		}
	}
	return t
}

// leaves are bodies without parts, inner are the names of those with some.
func leaves() []api.Term {
	return []api.Term{at("true"), at("fail"), at("false"), at("!"), at("a"), va(6), nu(7)}
}

const inner = `, ; -> \+`

// within is a body of a name with these parts.
func within(name string, a, b api.Term) api.Term {
	if name == `\+` {
		return co(name, a)
	}
	return co(name, a, b)
}

// anyBody is some body at most so deep.
func anyBody(r *rand.Rand, depth int) api.Term {
	if depth < 2 || r.Intn(6) == 0 {
		if r.Intn(5) == 0 {
			return co([]string{"f", "true", "!"}[r.Intn(3)], va(1+int64(r.Intn(9))), anyBody(r, 1))
		}
		return leaves()[r.Intn(7)]
	}
	return within(strings.Fields(inner)[r.Intn(4)], anyBody(r, depth-1), anyBody(r, depth-1))
}

// anyHead is some head.
func anyHead(r *rand.Rand) api.Term {
	var args []api.Term
	for range r.Intn(9) {
		args = append(args, anyBody(r, 2))
	}
	return headOf("p", args...)
}

// inputs are some right clauses.
func inputs(r *rand.Rand, count int) []api.Clause {
	var all []api.Clause
	for range count {
		all = append(all, cl(anyHead(r), noNumber(anyBody(r, 7))))
	}
	return all
}

// noNumber is a body that is no number.
func noNumber(t api.Term) api.Term {
	if t.Kind == api.Num {
		return va(t.Int)
	}
	return t
}

// asRead is the clause of a text, its variables numbered in their order.
func asRead(t *testing.T, text string) api.Clause {
	t.Helper()
	terms, e := read.All(ops.New(), text)
	if e != nil || len(terms) != 1 {
		t.Fatalf("%s isn't read: %v, %v", text, terms, e)
	}
	c, err := base.Clause(terms[0].Term)
	if err != api.OK {
		t.Fatalf("%s is no clause", text)
	}
	return c
}

// compiled is the code of a clause, goal that of a goal; it is no test of theirs if there is none.
func compiled(t *testing.T, c api.Clause) code.Code {
	t.Helper()
	got, e := code.Compile(c)
	if e != api.OK {
		t.Fatalf("Compile(%.300s :- %.300s): %d", text(c.Head), text(c.Body), e)
	}
	return got
}

func goal(t *testing.T, g api.Term) code.Code {
	t.Helper()
	got, e := code.Goal(g)
	if e != api.OK {
		t.Fatalf("Goal(%.300s): %d", text(g), e)
	}
	return got
}

// same tells whether two terms are alike in all fields; no list and an empty one are.
func same(a, b api.Term) bool {
	return a.Kind == b.Kind && a.Name == b.Name && a.Int == b.Int && slices.EqualFunc(a.Args, b.Args, same)
}

func sameIns(a, b code.Ins) bool { return a.Op == b.Op && a.A == b.A && same(a.T, b.T) }

func sameCode(a, b code.Code) bool {
	return a.Pred == b.Pred && a.Vars == b.Vars && a.Slots == b.Slots && slices.EqualFunc(a.Ins, b.Ins, sameIns)
}

// text is a term as a text.
func text(t api.Term) string {
	switch t.Kind {
	case api.Var:
		return "X" + strconv.FormatInt(t.Int, 10)
	case api.Num:
		return strconv.FormatInt(t.Int, 10)
	case api.Atom:
		return t.Name
	}
	var args []string
	for _, arg := range t.Args {
		args = append(args, text(arg))
	}
	return t.Name + "(" + strings.Join(args, ",") + ")"
}

// listing is code as a text: its predicate, variables and slots, then its instructions, with each field that isn't zero or that they name.
func listing(c code.Code) string {
	names := strings.Fields("? Get Call Cut Fork Jump Save Back Fail Done ?")
	var all []string
	for _, i := range c.Ins {
		line := names[min(max(i.Op, 0), 10)]
		if i.A != 0 || i.Op == code.Save || i.Op == code.Back {
			line += " " + strconv.Itoa(i.A)
		}
		if !same(i.T, api.Term{}) {
			line += " " + text(i.T)
		}
		all = append(all, line)
	}
	return c.Pred.Name + "/" + strconv.Itoa(c.Pred.Arity) + ", " + strconv.Itoa(c.Vars) + ", " + strconv.Itoa(c.Slots) + ": " + strings.Join(all, "; ")
}

// roomy is a term in new memory, whose lists of arguments have spare room with a mark in it.
func roomy(t api.Term) api.Term {
	if t.Kind != api.Comp {
		return t
	}
	args := make([]api.Term, 0, len(t.Args)+1)
	for _, arg := range t.Args {
		args = append(args, roomy(arg))
	}
	t.Args = append(args, at("spare"))[:len(args)]
	return t
}

// unspoilt tells whether a term that roomy made is still the one that it was made of, its spare room too.
func unspoilt(t, was api.Term) bool { return reflect.DeepEqual(spread(t), spread(roomy(was))) }

// spread is all memory of a term, its spare room too.
func spread(t api.Term) []any {
	all := []any{t.Kind, t.Name, t.Int, len(t.Args)}
	for _, arg := range t.Args[:cap(t.Args)] {
		all = append(all, spread(arg))
	}
	return all
}

// spoil writes over all memory of terms, their spare room too.
func spoil(terms ...api.Term) {
	for _, t := range terms {
		spoil(t.Args...)
		room := t.Args[:cap(t.Args)]
		for i := range room {
			room[i] = nu(-99)
		}
	}
}

// spoilCode writes over all memory of code, its spare room too.
func spoilCode(c code.Code) {
	for _, i := range c.Ins {
		spoil(i.T)
	}
	room := c.Ins[:cap(c.Ins)]
	for i := range room {
		room[i] = code.Ins{Op: -99, A: -99, T: nu(-99)}
	}
}
