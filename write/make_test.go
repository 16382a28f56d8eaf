package write_test

import (
	"math/rand"
	"slices"
	"strings"
	"testing"

	"pythia/api"
	"pythia/write"
)

// va, nu, at and co make a variable, a number, an atom, and a compound term.
func va(n int64) api.Term     { return api.Term{Kind: api.Var, Int: n} }
func nu(n int64) api.Term     { return api.Term{Kind: api.Num, Int: n} }
func at(name string) api.Term { return api.Term{Kind: api.Atom, Name: name} }
func co(name string, args ...api.Term) api.Term {
	return api.Term{Kind: api.Comp, Name: name, Args: args}
}

// list is the list of some terms.
func list(tail api.Term, ts ...api.Term) api.Term {
	for _, t := range slices.Backward(ts) {
		tail = co(".", t, tail)
	}
	return tail
}

// tower is t within so many s(..).
func tower(t api.Term, height int) api.Term {
	for range height {
		t = co("s", t)
	}
	return t
}

// copies are so many of a term.
func copies(n int, t api.Term) []api.Term { return slices.Repeat([]api.Term{t}, n) }

// sized is a term with so many symbols, whose variables, numbers and atoms are all t.
func sized(size int, t api.Term) api.Term {
	if size == 1 {
		return t
	}
	var args []api.Term
	rest := size - 1
	for n := min(rest, 8); n > 0; n-- {
		args = append(args, sized(rest/n, t))
		rest -= rest / n
	}
	return co("w", args...)
}

// inRing is a term within itself, by the memory that its arguments lie in.
func inRing() api.Term {
	args := make([]api.Term, 1)
	args[0] = co("s", args...)
	args[0].Args = args
	return args[0]
}

// doubled is a term whose arguments share memory: it has 2^height leaves.
func doubled(t api.Term, height int) api.Term {
	for range height {
		args := []api.Term{t, t}
		t = co("d", args...)
	}
	return t
}

// untidy is the term with something in each field that its kinds don't name.
func untidy(t api.Term) api.Term {
	junk := []api.Term{{Kind: 9}, inRing()}
	switch t.Kind {
	case api.Var, api.Num:
		t.Name, t.Args = strings.Repeat("\x00", 70), junk
	case api.Atom:
		t.Int, t.Args = -7, junk
	case api.Comp:
		t.Int = -7
		args := make([]api.Term, len(t.Args), len(t.Args)+2)
		for i, arg := range t.Args {
			args[i] = untidy(arg)
		}
		t.Args = args
	}
	return t
}

// same tells whether a term is just the other one, in all fields.
func same(a, b api.Term) bool {
	return a.Kind == b.Kind && a.Name == b.Name && a.Int == b.Int && slices.EqualFunc(a.Args, b.Args, same)
}

// roomy is a term in new memory, whose lists of arguments have spare room with a mark in it.
func roomy(t api.Term) api.Term {
	if t.Kind != api.Comp {
		return t
	}
	args := make([]api.Term, 0, len(t.Args)+1)
	for _, arg := range t.Args {
		args = append(args, roomy(arg))
	}
	t.Args = append(args, at("spare"))[:len(args)]
	return t
}

// unspoilt tells whether a term that roomy made is still the one that it was made of, its spare room too.
func unspoilt(t, was api.Term) bool {
	if t.Kind != was.Kind || t.Name != was.Name || t.Int != was.Int || len(t.Args) != len(was.Args) {
		return false
	}
	return t.Kind != api.Comp || same(t.Args[:len(t.Args)+1][len(t.Args)], at("spare")) && slices.EqualFunc(t.Args, was.Args, unspoilt)
}

// written fails, if a term hasn't this text, with and without something in the fields that its kinds don't name.
func written(t *testing.T, term api.Term, want string) {
	t.Helper()
	for _, u := range []api.Term{term, untidy(term)} {
		if got, e := write.Text(u); got != want || e != api.OK {
			t.Fatalf("%.80q, %d, not %.80q", got, e, want)
		}
	}
}

// refused fails, if a term isn't answered this error, and nothing else.
func refused(t *testing.T, what string, term api.Term, want api.Errno) {
	t.Helper()
	if got, e := write.Text(term); got != "" || e != want {
		t.Fatalf("%s: %.80q, %d, not %d", what, got, e, want)
	}
}

// named fails, if a name hasn't this text, or isn't written so as an atom.
func named(t *testing.T, name, want string) {
	t.Helper()
	if got, e := write.Name(name); got != want || e != api.OK {
		t.Fatalf("Name(%q) = %q, %d, not %q", name, got, e, want)
	}
	written(t, at(name), want)
}

// oddNames are names like signs of terms, operators, tokens, and parts of these.
var oddNames = []string{
	"", "a", "b", "aB_1", "A", "X", "_", "_1", "_2", "1", "-1", "0", "0'a", "[]", "{}", "[", "]", "{", "}", "(", ")", ",", "|", ".", ". ", "..", "!", ";", "'", "''", "\\", "\\'", "\"", "\n", "\t", "\\n", "n", " ", "a b", " a", "a ", "a.", "a(", "f(a)", "[a]", "[a|b]", "{a}", "a,b", "'a'", "'a b'",
	"-", "--", "+", "*", "/", "//", "/*", "*/", "/**/", "**", "%", "%a", ":-", "-->", "?-", "->", "\\+", "=", "\\=", "==", "=..", "is", "mod", "rem", "^", "/\\", "\\/", "<<", "@<", "=:=", "#", "&", "$", "@", "~", "`", "op", "a'b", "a\\b", "a\nb", "a\tb", "!!", ";;", "!;", "[[]]", "{}{}", "[ ]", "{ }", "()", "-a", "a-", "a1", "1a", "aA", "Aa",
}

// anyName is some name that can be written.
func anyName(r *rand.Rand) string {
	if r.Intn(3) > 0 {
		return oddNames[r.Intn(len(oddNames))]
	}
	const from = "abzAZ_09+-*/\\^<>=~:.?@#&$!;,|()[]{}%'\"` \n\t"
	name := make([]byte, r.Intn(5))
	for i := range name {
		name[i] = from[r.Intn(len(from))]
	}
	return string(name)
}

// anyTerm is some term at most so deep, over some names.
func anyTerm(r *rand.Rand, depth int, name func(*rand.Rand) string) api.Term {
	k := r.Intn(12)
	switch {
	case k < 2:
		return va(1 + int64(r.Intn(3)))
	case k < 4:
		return nu(int64(r.Intn(5)) - 2)
	case k < 6 || depth < 2:
		return at(name(r))
	case k < 8:
		return co(".", anyTerm(r, depth-1, name), anyTerm(r, depth-1, name))
	case k < 9:
		return list(at("[]"), anyTerm(r, depth-1, name), anyTerm(r, depth-1, name))
	}
	var args []api.Term
	for range 1 + r.Intn(3) {
		args = append(args, anyTerm(r, depth-1, name))
	}
	return co(name(r), args...)
}
