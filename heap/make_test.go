package heap_test

import (
	"slices"
	"strconv"
	"strings"
	"testing"

	"pythia/api"
	"pythia/heap"
)

// va, nu, at and co make a variable, a number, an atom, and a compound term.
func va(n int64) api.Term     { return api.Term{Kind: api.Var, Int: n} }
func nu(n int64) api.Term     { return api.Term{Kind: api.Num, Int: n} }
func at(name string) api.Term { return api.Term{Kind: api.Atom, Name: name} }
func co(name string, args ...api.Term) api.Term {
	return api.Term{Kind: api.Comp, Name: name, Args: args}
}

// tower is a term within so many s(..).
func tower(t api.Term, height int) api.Term {
	for range height {
		t = co("s", t)
	}
	return t
}

// sized is a term with so many symbols, whose variables, numbers and atoms are all t.
func sized(size int, t api.Term) api.Term {
	if size == 1 {
		return t
	}
	var args []api.Term
	rest := size - 1
	for n := min(rest, 8); n > 0; n-- {
		args = append(args, sized(rest/n, t))
		rest -= rest / n
	}
	return co("w", args...)
}

// doubled is a term whose arguments share memory: it has 2^height leaves.
func doubled(t api.Term, height int) api.Term {
	for range height {
		t = co("d", t, t)
	}
	return t
}

// wrong are terms that aren't right.
func wrong() map[string]api.Term {
	long := strings.Repeat("x", 65)
	ring := make([]api.Term, 1)
	ring[0] = co("s", ring...)
	ring[0].Args = ring
	return map[string]api.Term{
		"the zero term":      {},
		"kind 5":             {Kind: 5, Name: "a", Args: []api.Term{at("a")}},
		"kind below 0":       {Kind: -1, Int: 1},
		"variable 0":         va(0),
		"variable below 0":   va(-1),
		"a long atom":        at(long),
		"a long name":        co(long, at("a")),
		"no argument":        co("f"),
		"nine arguments":     co("f", slices.Repeat([]api.Term{at("a")}, 9)...),
		"a wrong one within": co("f", at("a"), co("g", co("h", va(0)), at("b"))),
		"too deep":           tower(at("a"), 100),
		"too many symbols":   sized(2001, at("a")),
		"within itself":      ring[0],
		"2^60 leaves":        doubled(at("a"), 60),
	}
}

// untidy is the term with something in each field that its kinds don't name.
func untidy(t api.Term) api.Term {
	junk := []api.Term{{Kind: 9}, nu(7)}
	switch t.Kind {
	case api.Var, api.Num:
		t.Name, t.Args = strings.Repeat("?", 70), junk
	case api.Atom:
		t.Int, t.Args = -7, junk
	case api.Comp:
		t.Int = -7
		args := make([]api.Term, len(t.Args), len(t.Args)+2)
		for i, arg := range t.Args {
			args[i] = untidy(arg)
		}
		t.Args = args
	}
	return t
}

// same tells whether a term is just the other one, in all fields.
func same(a, b api.Term) bool {
	return a.Kind == b.Kind && a.Name == b.Name && a.Int == b.Int && slices.EqualFunc(a.Args, b.Args, same)
}

// text is a term as a text, to tell what went wrong.
func text(t api.Term) string {
	switch t.Kind {
	case api.Var:
		return "X" + strconv.FormatInt(t.Int, 10)
	case api.Num:
		return strconv.FormatInt(t.Int, 10)
	case api.Atom:
		return t.Name
	}
	var args []string
	for _, arg := range t.Args {
		args = append(args, text(arg))
	}
	return t.Name + "(" + strings.Join(args, ",") + ")"
}

// put puts a term in, or fails.
func put(t *testing.T, h *heap.Heap, u api.Term, env ...int) (int, []int) {
	t.Helper()
	a, stands, e := h.Put(u, env...)
	if e != api.OK {
		t.Fatalf("Put(%.100s, %v) = %d", text(u), env, e)
	}
	return a, stands
}

// puts fails, if a term isn't put in at this address, with variables that stand for these.
func puts(t *testing.T, h *heap.Heap, u api.Term, env []int, at int, stands ...int) {
	t.Helper()
	if a, got, e := h.Put(u, env...); a != at || !slices.Equal(got, stands) || e != api.OK {
		t.Fatalf("Put(%.100s, %v) = %d, %v, %d, not %d, %v", text(u), env, a, got, e, at, stands)
	}
}

// unput fails, if a term isn't refused with this error, or anything has changed.
func unput(t *testing.T, h *heap.Heap, want api.Errno, u api.Term, env ...int) {
	t.Helper()
	cells, notes, marks := h.Used()
	if a, stands, e := h.Put(u, env...); a != 0 || len(stands) > 0 || e != want {
		t.Fatalf("Put(%.100s, %d places) = %d, %v, %d, not %d", text(u), len(env), a, stands, e, want)
	}
	used(t, h, cells, notes, marks)
}

// takes fails, if this isn't the term at an address.
func takes(t *testing.T, h *heap.Heap, at int, want api.Term) {
	t.Helper()
	if got, e := h.Take(at); !same(got, want) || e != api.OK {
		t.Fatalf("Take(%d) = %.200s, %d, not %.200s", at, text(got), e, text(want))
	}
}

// untaken fails, if an address isn't refused with this error.
func untaken(t *testing.T, h *heap.Heap, at int, want api.Errno) {
	t.Helper()
	if got, e := h.Take(at); !same(got, api.Term{}) || e != want {
		t.Fatalf("Take(%d) = %.200s, %d, not %d", at, text(got), e, want)
	}
}

// unifies fails, if making two terms the same isn't answered so.
func unifies(t *testing.T, h *heap.Heap, a, b int, want bool, err api.Errno) {
	t.Helper()
	if ok, e := h.Unify(a, b); ok != want || e != err {
		t.Fatalf("Unify(%d, %d) = %v, %d, not %v, %d", a, b, ok, e, want, err)
	}
}

// used fails, if there aren't so many cells, notes and marks.
func used(t *testing.T, h *heap.Heap, cells, notes, marks int) {
	t.Helper()
	if c, n, m := h.Used(); c != cells || n != notes || m != marks {
		t.Fatalf("Used = %d, %d, %d, not %d, %d, %d", c, n, m, cells, notes, marks)
	}
}
