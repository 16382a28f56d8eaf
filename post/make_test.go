package post_test

import (
	"math/rand"
	"slices"
	"strconv"
	"strings"
	"testing"

	"pythia/api"
	"pythia/post"
)

// va, nu, at and co make a variable, a number, an atom, and a compound term.
func va(n int64) api.Term     { return api.Term{Kind: api.Var, Int: n} }
func nu(n int64) api.Term     { return api.Term{Kind: api.Num, Int: n} }
func at(name string) api.Term { return api.Term{Kind: api.Atom, Name: name} }
func co(name string, args ...api.Term) api.Term {
	return api.Term{Kind: api.Comp, Name: name, Args: args}
}

// tower is a term within so many s(..).
func tower(t api.Term, height int) api.Term {
	for range height {
		t = co("s", t)
	}
	return t
}

// sized is a term with so many symbols, whose variables, numbers and atoms are what next says, from left to right.
func sized(size int, next func() api.Term) api.Term {
	if size == 1 {
		return next()
	}
	var args []api.Term
	rest := size - 1
	for n := min(rest, 8); n > 0; n-- {
		args = append(args, sized(rest/n, next))
		rest -= rest / n
	}
	return co("w", args...)
}

// always says one term again and again.
func always(t api.Term) func() api.Term { return func() api.Term { return t } }

// from says variables, from one on.
func from(n int64) func() api.Term {
	return func() api.Term {
		n++
		return va(n - 1)
	}
}

// doubled is a term whose arguments share memory: it has 2^height leaves.
func doubled(t api.Term, height int) api.Term {
	for range height {
		t = co("d", t, t)
	}
	return t
}

// wrong are terms that aren't right.
func wrong() map[string]api.Term {
	long := strings.Repeat("x", 65)
	ring := make([]api.Term, 1)
	ring[0] = co("s", ring...)
	ring[0].Args = ring
	return map[string]api.Term{
		"the zero term":      {},
		"kind 5":             {Kind: 5, Name: "a", Args: []api.Term{at("a")}},
		"kind below 0":       {Kind: -1, Int: 1},
		"variable 0":         va(0),
		"variable below 0":   va(-1),
		"a long atom":        at(long),
		"a long name":        co(long, at("a")),
		"no argument":        co("f"),
		"nine arguments":     co("f", slices.Repeat([]api.Term{at("a")}, 9)...),
		"a wrong one within": co("f", at("a"), co("g", co("h", va(0)), at("b"))),
		"too deep":           tower(at("a"), 100),
		"too many symbols":   sized(2001, always(at("a"))),
		"within itself":      ring[0],
		"2^60 leaves":        doubled(at("a"), 60),
	}
}

// untidy is the term with something in each field that its kinds don't name.
func untidy(t api.Term) api.Term {
	junk := []api.Term{{Kind: 9}, nu(7)}
	switch t.Kind {
	case api.Var, api.Num:
		t.Name, t.Args = strings.Repeat("?", 70), junk
	case api.Atom:
		t.Int, t.Args = -7, junk
	case api.Comp:
		t.Int = -7
		args := make([]api.Term, len(t.Args), len(t.Args)+2)
		for i, arg := range t.Args {
			args[i] = untidy(arg)
		}
		t.Args = args
	}
	return t
}

// anyTerm is some term at most so deep, over few symbols.
func anyTerm(r *rand.Rand, depth, vars int) api.Term {
	k := r.Intn(10)
	switch {
	case k < 4:
		return va(1 + int64(r.Intn(vars)))
	case k < 5:
		return nu(int64(r.Intn(2)))
	case k < 6 || depth < 2:
		return at([]string{"a", "b"}[r.Intn(2)])
	case k < 8:
		return co("s", anyTerm(r, depth-1, vars))
	}
	return co("f", anyTerm(r, depth-1, vars), anyTerm(r, depth-1, vars))
}

// same tells whether a term is just the other one, in all fields.
func same(a, b api.Term) bool {
	return a.Kind == b.Kind && a.Name == b.Name && a.Int == b.Int && slices.EqualFunc(a.Args, b.Args, same)
}

// text is a term as a text, to tell what went wrong.
func text(t api.Term) string {
	switch t.Kind {
	case api.Var:
		return "X" + strconv.FormatInt(t.Int, 10)
	case api.Num:
		return strconv.FormatInt(t.Int, 10)
	case api.Atom:
		return t.Name
	}
	var args []string
	for _, arg := range t.Args {
		args = append(args, text(arg))
	}
	return t.Name + "(" + strings.Join(args, ",") + ")"
}

// box is a post with one queue, its number 1, of so many messages.
func box(t *testing.T, most int) *post.Post {
	t.Helper()
	p := post.New()
	makes(t, p, most, 1)
	return p
}

// makes fails, if a new queue hasn't this number.
func makes(t *testing.T, p *post.Post, most, want int) {
	t.Helper()
	if q, e := p.Make(most); q != want || e != api.OK {
		t.Fatalf("Make(%d) = %d, %d, not %d", most, q, e, want)
	}
}

// drops fails, if Drop isn't answered so.
func drops(t *testing.T, p *post.Post, q int, want api.Errno) {
	t.Helper()
	if e := p.Drop(q); e != want {
		t.Fatalf("Drop(%d) = %d, not %d", q, e, want)
	}
}

// sends fails, if Send isn't answered so.
func sends(t *testing.T, p *post.Post, q int, message api.Term, want api.Errno) {
	t.Helper()
	if e := p.Send(q, message); e != want {
		t.Fatalf("Send(%d, %.200s) = %d, not %d", q, text(message), e, want)
	}
}

// asker is Peek or Get of a post.
type asker func(q int, pattern api.Term) (api.Term, api.Errno)

// answers fails, if this isn't the message that is answered.
func answers(t *testing.T, ask asker, q int, pattern, want api.Term) {
	t.Helper()
	if got, e := ask(q, pattern); !same(got, want) || e != api.OK {
		t.Fatalf("asked %d for %.200s: %.200s, %d, not %.200s", q, text(pattern), text(got), e, text(want))
	}
}

// refuses fails, if a pattern isn't refused with this error.
func refuses(t *testing.T, ask asker, q int, pattern api.Term, want api.Errno) {
	t.Helper()
	if got, e := ask(q, pattern); !same(got, api.Term{}) || e != want {
		t.Fatalf("asked %d for a pattern: %.200s, %d, not %d", q, text(got), e, want)
	}
}

// has fails, if a queue hasn't so many messages.
func has(t *testing.T, p *post.Post, q, want int) {
	t.Helper()
	if n, e := p.Len(q); n != want || e != api.OK {
		t.Fatalf("Len(%d) = %d, %d, not %d", q, n, e, want)
	}
}

// there fails, if these aren't the queues that there are.
func there(t *testing.T, p *post.Post, want ...int) {
	t.Helper()
	if got := p.Queues(); !slices.Equal(got, want) {
		t.Fatalf("Queues = %v, not %v", got, want)
	}
}
