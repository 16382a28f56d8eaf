package term_test

import (
	"maps"
	"math"
	"math/rand"
	"slices"
	"testing"

	"pythia/api"
	"pythia/term"
)

// P7.1: the chapter's examples, and the edges of solutions.
func TestSolve(t *testing.T) {
	bind := func(v int64, to api.Term) api.Bind { return api.Bind{Var: v, To: to} }
	f := func(args ...api.Term) api.Term { return co("f", args...) }
	for _, c := range []struct {
		a, b api.Term
		want []api.Bind
		ok   bool
	}{
		{f(va(1), at("b")), f(at("a"), va(2)), []api.Bind{bind(1, at("a")), bind(2, at("b"))}, true},
		{va(2), va(1), []api.Bind{bind(2, va(1))}, true},
		{va(1), f(va(1)), nil, false},
		{at("a"), at("a"), nil, true},
		{at("a"), at("b"), nil, false},
		{nu(1), nu(1), nil, true},
		{nu(1), nu(2), nil, false},
		{nu(0), at("0"), nil, false},
		{nu(0), at(""), nil, false},
		{va(1), va(1), nil, true},
		{f(va(1), va(2)), f(va(1), va(2)), nil, true},
		{at("f"), f(at("a")), nil, false},
		{f(at("a")), f(at("a"), at("a")), nil, false},
		{f(at("a")), co("g", at("a")), nil, false},
		{va(math.MaxInt64), nu(math.MinInt64), []api.Bind{bind(math.MaxInt64, nu(math.MinInt64))}, true},
		// variables that are bound to one another
		{f(va(3), va(2), va(4)), f(va(2), va(4), va(5)), []api.Bind{bind(3, va(2)), bind(4, va(2)), bind(5, va(2))}, true},
		{f(va(3), va(2), va(4)), f(va(2), va(4), at("a")), []api.Bind{bind(2, at("a")), bind(3, at("a")), bind(4, at("a"))}, true},
		{f(va(1), va(2), va(3)), f(va(2), va(3), va(1)), []api.Bind{bind(2, va(1)), bind(3, va(1))}, true},
		{f(va(9), va(8), va(9)), f(va(7), va(6), va(8)), []api.Bind{bind(7, va(6)), bind(8, va(6)), bind(9, va(6))}, true},
		{f(co("g", va(5)), va(5)), f(co("g", va(4)), co("h", va(3))), []api.Bind{bind(4, co("h", va(3))), bind(5, co("h", va(3)))}, true},
		{f(va(1), va(1)), f(co("g", va(2), va(3)), co("g", va(3), va(4))), []api.Bind{bind(1, co("g", va(2), va(2))), bind(3, va(2)), bind(4, va(2))}, true},
		{f(va(1), va(1)), f(at("a"), at("b")), nil, false},
		{f(va(1), va(2), va(1)), f(va(2), at("a"), at("b")), nil, false},
		// a variable within its own term
		{f(va(1), va(2)), f(co("s", va(2)), co("s", va(1))), nil, false},
		{f(va(1), va(2)), f(va(2), co("s", va(1))), nil, false},
		{f(va(1), va(1)), f(co("s", va(2)), co("s", co("s", va(2)))), nil, false},
		{f(va(1), va(2), va(3), at("a")), f(co("s", va(2)), co("s", va(3)), co("s", va(1)), at("a")), nil, false},
		{f(va(1), co("s", va(1))), f(va(2), co("s", va(2))), []api.Bind{bind(2, va(1))}, true},
		{f(co("s", va(1)), va(1)), f(va(1), va(1)), nil, false},
	} {
		for _, untidied := range []bool{false, true} {
			a, b := c.a, c.b
			if untidied {
				a, b = untidy(a), untidy(b)
			}
			for _, pair := range [][2]api.Term{{a, b}, {b, a}} {
				if got, ok, e := term.Solve(pair[0], pair[1]); !tidyBinds(got, c.want) || ok != c.ok || e != api.OK {
					t.Errorf("Solve(%s, %s) = %s; %v, %d", text(c.a), text(c.b), texts(got), ok, e)
				}
			}
		}
	}
}

// plain is a solution that grows binding by binding: no variable that is bound stands in any of the terms.
type plain map[int64]api.Term

// in is a term with the bound variables' terms in it.
func (p plain) in(t api.Term) api.Term {
	if to, ok := p[t.Int]; t.Kind == api.Var && ok {
		return to
	}
	args := slices.Clone(t.Args)
	for i, arg := range args {
		args[i] = p.in(arg)
	}
	t.Args = args
	return t
}

// holds tells whether a variable stands in a term.
func holds(t api.Term, v int64) bool {
	return t.Kind == api.Var && t.Int == v || slices.ContainsFunc(t.Args, func(arg api.Term) bool { return holds(arg, v) })
}

// bind binds a variable that isn't bound yet.
func (p plain) bind(v int64, to api.Term) bool {
	if holds(to, v) {
		return false
	}
	one := plain{v: to}
	for w, t := range p {
		p[w] = one.in(t)
	}
	p[v] = to
	return true
}

// unify makes two terms the same.
func (p plain) unify(a, b api.Term) bool {
	a, b = p.in(a), p.in(b)
	switch {
	case tidy(a, b):
		return true
	case a.Kind == api.Var && (b.Kind != api.Var || a.Int > b.Int):
		return p.bind(a.Int, b)
	case b.Kind == api.Var:
		return p.bind(b.Int, a)
	case a.Kind != b.Kind || a.Name != b.Name || a.Int != b.Int || len(a.Args) != len(b.Args):
		return false
	}
	for i, arg := range a.Args {
		if !p.unify(arg, b.Args[i]) {
			return false
		}
	}
	return true
}

// binds are the bindings by rising variables.
func (p plain) binds() []api.Bind {
	var bs []api.Bind
	for _, v := range slices.Sorted(maps.Keys(p)) {
		bs = append(bs, api.Bind{Var: v, To: p[v]})
	}
	return bs
}

// P7.1, P7.3: Solve beside a solution that grows binding by binding.
func TestSolveBesidePlain(t *testing.T) {
	r := rand.New(rand.NewSource(1))
	solved, not := 0, 0
	for range 60000 {
		depth, vars := 2+r.Intn(4), 1+r.Intn(6)
		a, b := anyTerm(r, depth, vars), anyTerm(r, depth, vars)
		p := plain{}
		want := p.unify(a, b)
		got, ok, e := term.Solve(a, b)
		if ok != want || e != api.OK || ok && !tidyBinds(got, p.binds()) || !ok && len(got) != 0 {
			t.Fatalf("Solve(%s, %s) = %s; %v, %d, not %s", text(a), text(b), texts(got), ok, e, texts(p.binds()))
		}
		if !ok {
			not++
			continue
		}
		solved++
		x, _ := term.Apply(a, got)
		y, _ := term.Apply(b, got)
		if !term.Same(x, y) {
			t.Fatalf("Solve(%s, %s) = %s makes %s, %s", text(a), text(b), texts(got), text(x), text(y))
		}
		// What it is told in, it leaves as it is.
		for _, g := range got {
			if to, _ := term.Apply(g.To, got); !tidy(to, g.To) {
				t.Fatalf("Solve(%s, %s) = %s: %s becomes %s", text(a), text(b), texts(got), text(g.To), text(to))
			}
		}
	}
	if solved < 5000 || not < 5000 {
		t.Errorf("%d solved, %d not", solved, not)
	}
}

// P7.3: whatever terms some other bindings make the same, these are the solution's, further bound.
func TestMostGeneral(t *testing.T) {
	r := rand.New(rand.NewSource(2))
	made := 0
	for range 60000 {
		a, b := anyTerm(r, 3, 3), anyTerm(r, 3, 3)
		var others []api.Bind
		for v := range 3 {
			others = append(others, api.Bind{Var: int64(v + 1), To: anyTerm(r, 2, 2)})
		}
		x, _ := term.Apply(a, others)
		y, _ := term.Apply(b, others)
		if !term.Same(x, y) {
			continue
		}
		made++
		got, ok, e := term.Solve(a, b)
		if !ok || e != api.OK {
			t.Fatalf("Solve(%s, %s) = %v, %d, but %s", text(a), text(b), ok, e, texts(others))
		}
		for v := range int64(3) {
			first, _ := term.Apply(va(v+1), got)
			first, _ = term.Apply(first, others)
			if once, _ := term.Apply(va(v+1), others); !tidy(first, once) {
				t.Fatalf("Solve(%s, %s) = %s, isn't more general than %s", text(a), text(b), texts(got), texts(others))
			}
		}
	}
	if made < 1000 {
		t.Errorf("only %d were the same", made)
	}
}

// chained are two terms that make X1 d(X2, X2), X2 d(X3, X3) and so on, so many times: X1 becomes a term of 2^n leaves.
func chained(from int64, n int) ([]api.Term, []api.Term) {
	var a, b []api.Term
	for i := range int64(n) {
		a = append(a, va(from+i))
		b = append(b, co("d", va(from+i+1), va(from+i+1)))
	}
	return a, b
}

// folded is one term of many, eight by eight.
func folded(ts []api.Term) api.Term {
	if len(ts) == 1 {
		return ts[0]
	}
	var above []api.Term
	for part := range slices.Chunk(ts, 8) {
		above = append(above, co("w", part...))
	}
	return folded(above)
}

// P7.1: a term of the solution that is too great, and one that just isn't.
func TestSolveBounds(t *testing.T) {
	for _, c := range []struct {
		name string
		a, b api.Term
		want api.Errno
	}{
		{"2000 symbols", va(1), sized(2000, at("a")), api.OK},
		{"almost 2000 symbols, twice", co("f", va(1), va(2)), co("f", co("s", va(2)), sized(1996, at("a"))), api.OK},
		{"2001 symbols", co("f", va(1), va(2)), co("f", co("d", va(2), va(2)), sized(1000, at("a"))), api.ErrLong},
		{"1999 symbols", co("f", va(1), va(2)), co("f", co("d", va(2), va(2)), sized(999, at("a"))), api.OK},
		{"depth 100", co("f", va(1), va(2)), co("f", tower(va(2), 50), tower(at("a"), 49)), api.OK},
		{"depth 101", co("f", va(1), va(2)), co("f", tower(va(2), 50), tower(at("a"), 50)), api.ErrLong},
		{"depth 101 of the first", co("f", va(2), va(1)), co("f", tower(at("a"), 50), tower(va(2), 50)), api.ErrLong},
		{"depth 100 of the first of two", co("f", va(1), va(2)), co("f", co("g", tower(va(2), 50), at("a")), tower(at("a"), 48)), api.OK},
		{"depth 101 of the first of two", co("f", va(1), va(2)), co("f", co("g", tower(va(2), 50), at("a")), tower(at("a"), 49)), api.ErrLong},
		{"depth 101 of the last of two", co("f", va(1), va(2)), co("f", co("g", at("a"), tower(va(2), 50)), tower(at("a"), 49)), api.ErrLong},
		{"the terms as they become are greater, their variables' aren't", sized(2000, va(1)), sized(2000, va(2)), api.OK},
		{"a great one put in many places", co("f", va(1), sized(1000, va(1))), co("f", sized(500, at("a")), va(2)), api.ErrLong},
		{"a great one in no variable", co("f", va(1), sized(500, va(1))), co("f", sized(100, at("a")), sized(500, va(1))), api.OK},
	} {
		for _, pair := range [][2]api.Term{{c.a, c.b}, {c.b, c.a}} {
			got, ok, e := term.Solve(pair[0], pair[1])
			if e != c.want || ok != (e == api.OK) || !ok && len(got) != 0 {
				t.Errorf("%s: %d bindings, %v, %d, not %d", c.name, len(got), ok, e, c.want)
			}
			for _, g := range got {
				if term.Check(g.To) != api.OK {
					t.Errorf("%s: X%d gets a term that isn't right", c.name, g.Var)
				}
			}
		}
	}
}

// P7.1: solutions of terms that grow beyond any measure are found, told to be too great, or seen not to be.
func TestSolveGrowing(t *testing.T) {
	for _, c := range []struct {
		n    int
		want api.Errno
	}{{9, api.OK}, {10, api.ErrLong}, {60, api.ErrLong}, {100, api.ErrLong}, {250, api.ErrLong}} {
		a, b := chained(1, c.n)
		if got, ok, e := term.Solve(folded(a), folded(b)); e != c.want || ok != (e == api.OK) || ok && len(got) != c.n {
			t.Errorf("%d: %d bindings, %v, %d", c.n, len(got), ok, e)
		}
		// Two such chains made the same at their heads.
		x, y := chained(1001, c.n)
		a, b = append(a, x...), append(b, y...)
		a, b = append(a, va(1)), append(b, va(1001))
		if got, ok, e := term.Solve(folded(a), folded(b)); e != c.want || ok != (e == api.OK) || ok && len(got) != 2*c.n+1 {
			t.Errorf("two of %d: %d bindings, %v, %d", c.n, len(got), ok, e)
		}
		// At their ends they differ, or stand within one another: no solution, however great the terms are.
		ends := [][2]api.Term{{at("a"), at("b")}, {va(1), va(1)}, {va(1), va(1001)}, {va(1 + int64(c.n)), co("s", va(1002))}}
		for _, end := range ends {
			m, n := append(slices.Clone(a), va(1+int64(c.n)), va(1001+int64(c.n))), append(slices.Clone(b), end[0], end[1])
			for _, pair := range [][2]api.Term{{folded(m), folded(n)}, {folded(n), folded(m)}} {
				if got, ok, e := term.Solve(pair[0], pair[1]); len(got) != 0 || ok || e != api.OK {
					t.Errorf("two of %d that end in %s, %s: %v, %d", c.n, text(end[0]), text(end[1]), ok, e)
				}
			}
		}
	}
}

// P7.1: a great many bindings of great terms.
func TestSolveMany(t *testing.T) {
	var a, b []api.Term
	for v := range int64(400) {
		a, b = append(a, va(v+2)), append(b, va(1))
	}
	a, b = append(a, va(1)), append(b, sized(1000, nu(7)))
	got, ok, e := term.Solve(folded(a), folded(b))
	if len(got) != 401 || !ok || e != api.OK {
		t.Fatalf("%d bindings, %v, %d", len(got), ok, e)
	}
	for i, g := range got {
		if g.Var != int64(i+1) || !tidy(g.To, sized(1000, nu(7))) {
			t.Fatalf("binding %d is X%d", i, g.Var)
		}
	}
}
