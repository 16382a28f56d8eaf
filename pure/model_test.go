package pure_test

import (
	"cmp"
	"math/rand"
	"slices"
	"strings"
	"testing"

	"pythia/api"
	"pythia/arith"
	"pythia/pure"
	"pythia/term"
)

// rule is an outcome, and when it applies.
type rule struct {
	when bool
	then func() pure.Out
}

// first is the first outcome that applies.
func first(rules ...rule) pure.Out {
	for _, r := range rules {
		if r.when {
			return r.then()
		}
	}
	panic("no rule applies")
}

// always makes an outcome of a rule.
func always(out pure.Out) func() pure.Out { return func() pure.Out { return out } }

// model is what the chapter says of a right goal that is known.
func model(goal api.Term) pure.Out {
	a := goal.Args
	switch len(a) {
	case 0:
		return holding(goal.Name == "true")
	case 1:
		return modelOfTest(goal.Name, a[0])
	case 2:
		return modelOfTwo(goal, a[0], a[1])
	}
	switch goal.Name {
	case "compare":
		return unites(a[0], at(string("<=>"[order(a[1], a[2])+1])))
	case "functor":
		return modelOfFunctor(a[0], a[1], a[2], above(goal))
	}
	return modelOfArg(a[0], a[1], a[2])
}

func modelOfTest(name string, x api.Term) pure.Out {
	is := map[string]bool{
		"var":      x.Kind == api.Var,
		"nonvar":   x.Kind != api.Var,
		"atom":     x.Kind == api.Atom,
		"integer":  x.Kind == api.Num,
		"number":   x.Kind == api.Num,
		"compound": x.Kind == api.Comp,
		"atomic":   x.Kind == api.Num || x.Kind == api.Atom,
		"callable": x.Kind == api.Comp || x.Kind == api.Atom,
		"is_list":  same(ending(x), at("[]")),
	}
	return holding(is[name])
}

func modelOfTwo(goal, x, y api.Term) pure.Out {
	sign := order(x, y)
	switch goal.Name {
	case "=":
		return unites(x, y)
	case `\=`:
		return holding(!bindings{}.unify(x, y))
	case "==":
		return holding(sign == 0)
	case `\==`:
		return holding(sign != 0)
	case "@<":
		return holding(sign < 0)
	case "@=<":
		return holding(sign <= 0)
	case "@>":
		return holding(sign > 0)
	case "@>=":
		return holding(sign >= 0)
	case "copy_term":
		return unites(y, copied(x, above(goal), map[int64]int64{}))
	case "=..":
		return modelOfUniv(x, y)
	}
	v, ballOfX, okX := arith.Eval(x)
	w, ballOfY, okY := arith.Eval(y)
	holds, _ := arith.Holds(goal.Name, v, w)
	return first(
		rule{goal.Name == "is" && okY, always(unites(x, nu(w)))},
		rule{goal.Name != "is" && !okX, always(pure.Out{Ball: ballOfX})},
		rule{!okY, always(pure.Out{Ball: ballOfY})},
		rule{true, always(holding(holds))},
	)
}

func modelOfFunctor(t, n, a api.Term, next int64) pure.Out {
	return first(
		rule{t.Kind == api.Num, always(unites(n, t, a, nu(0)))},
		rule{t.Kind == api.Atom, always(unites(n, t, a, nu(0)))},
		rule{t.Kind == api.Comp, always(unites(n, at(t.Name), a, nu(int64(len(t.Args)))))},
		rule{n.Kind == api.Var, always(inst())},
		rule{a.Kind == api.Var, always(inst())},
		rule{a.Kind != api.Num, always(typed("integer", a))},
		rule{a.Int < 0, always(belowZero(a.Int))},
		rule{n.Kind == api.Comp, always(typed("atomic", n))},
		rule{a.Int == 0, always(unites(t, n))},
		rule{n.Kind == api.Num, always(typed("callable", n))},
		rule{a.Int > 8, always(tooMany())},
		rule{true, func() pure.Out { return unites(t, co(n.Name, vars(next, next+a.Int-1)...)) }},
	)
}

func modelOfArg(n, t, a api.Term) pure.Out {
	return first(
		rule{n.Kind == api.Var, always(inst())},
		rule{t.Kind == api.Var, always(inst())},
		rule{n.Kind != api.Num, always(typed("integer", n))},
		rule{t.Kind != api.Comp, always(typed("compound", t))},
		rule{n.Int < 0, always(belowZero(n.Int))},
		rule{n.Int == 0, always(no())},
		rule{n.Int > int64(len(t.Args)), always(no())},
		rule{true, func() pure.Out { return unites(a, t.Args[n.Int-1]) }},
	)
}

func modelOfUniv(t, l api.Term) pure.Out {
	items, end := itemsOf(l), ending(l)
	item := append(items, api.Term{})[0]
	return first(
		rule{t.Kind == api.Num || t.Kind == api.Atom, always(unites(l, list(t)))},
		rule{t.Kind == api.Comp, always(unites(l, list(append([]api.Term{at(t.Name)}, t.Args...)...)))},
		rule{end.Kind == api.Var, always(inst())},
		rule{item.Kind == api.Var, always(inst())},
		rule{!same(end, at("[]")), always(typed("list", l))},
		rule{len(items) == 0, always(domain("non_empty_list", l))},
		rule{len(items) == 1 && item.Kind == api.Comp, always(typed("atomic", item))},
		rule{len(items) == 1, always(unites(t, item))},
		rule{item.Kind != api.Atom, always(typed("callable", item))},
		rule{len(items) > 9, always(tooMany())},
		rule{true, func() pure.Out { return unites(t, co(item.Name, items[1:]...)) }},
	)
}

// ending is what a list ends in.
func ending(t api.Term) api.Term {
	for t.Kind == api.Comp && t.Name == "." && len(t.Args) == 2 {
		t = t.Args[1]
	}
	return t
}

func itemsOf(t api.Term) []api.Term {
	var items []api.Term
	for t.Kind == api.Comp && t.Name == "." && len(t.Args) == 2 {
		items = append(items, t.Args[0])
		t = t.Args[1]
	}
	return items
}

// above is one above the greatest number of a term's variables.
func above(t api.Term) int64 {
	most := int64(1)
	if t.Kind == api.Var {
		most = t.Int + 1
	}
	for _, arg := range t.Args {
		most = max(most, above(arg))
	}
	return most
}

func copied(t api.Term, next int64, names map[int64]int64) api.Term {
	if t.Kind == api.Var {
		if names[t.Int] == 0 {
			names[t.Int] = next + int64(len(names))
		}
		return va(names[t.Int])
	}
	t.Args = slices.Clone(t.Args)
	for i, arg := range t.Args {
		t.Args[i] = copied(arg, next, names)
	}
	return t
}

// order is the standard order.
func order(a, b api.Term) int {
	return cmp.Or(cmp.Compare(a.Kind, b.Kind), cmp.Compare(a.Int, b.Int), cmp.Compare(len(a.Args), len(b.Args)), strings.Compare(a.Name, b.Name), slices.CompareFunc(a.Args, b.Args, order))
}

// bindings are a solution that grows.
type bindings map[int64]api.Term

func (s bindings) of(t api.Term) api.Term {
	for t.Kind == api.Var {
		to, ok := s[t.Int]
		if !ok {
			return t
		}
		t = to
	}
	return t
}

func (s bindings) holds(t api.Term, v int64) bool {
	t = s.of(t)
	return t.Kind == api.Var && t.Int == v || slices.ContainsFunc(t.Args, func(arg api.Term) bool { return s.holds(arg, v) })
}

func (s bindings) unify(a, b api.Term) bool {
	a, b = s.of(a), s.of(b)
	switch {
	case same(a, b):
		return true
	case a.Kind == api.Var:
		s[a.Int] = b
		return !s.within(a, b)
	case b.Kind == api.Var:
		return s.unify(b, a)
	case a.Kind != b.Kind || a.Name != b.Name || a.Int != b.Int || len(a.Args) != len(b.Args):
		return false
	}
	for i, arg := range a.Args {
		if !s.unify(arg, b.Args[i]) {
			return false
		}
	}
	return true
}

// within tells whether a variable that has just been bound to a term stands in it.
func (s bindings) within(v, t api.Term) bool {
	delete(s, v.Int)
	defer func() { s[v.Int] = t }()
	return s.holds(t, v.Int)
}

// pool are terms of all sorts that goals look at.
func pool() []api.Term {
	x := va(1)
	return []api.Term{
		va(1), va(2), va(7),
		nu(least), nu(-1), nu(0), nu(1), nu(2), nu(8), nu(9), nu(greatest),
		at("a"), at("[]"), at(""), at("foo"), at("."),
		co("f", at("a")), co("f", va(1)), co("f", va(2), va(1)), co("f", co("f", va(7), va(1)), va(7)),
		co("+", nu(1), nu(1)), co("+", at("b"), va(1)), co("//", nu(1), nu(0)), co("-", nu(least)), co("g", eight()...),
		list(at("a")), list(nu(1)), list(co("f", va(2))), list(x),
		list(at("foo"), at("a")), list(at("foo"), va(2), va(1), va(2)), list(nu(1), nu(2)), list(co("f", x), nu(2)), list(x, nu(2)),
		partial(x, at("foo")), partial(at("foo"), x), partial(at("foo"), at("foo")), partial(x, nu(3), nu(4)),
		list(append([]api.Term{at("foo")}, eight()...)...), list(append([]api.Term{at("foo"), nu(0)}, eight()...)...), list(append([]api.Term{nu(1), nu(0)}, eight()...)...), list(append([]api.Term{list(x), nu(0)}, eight()...)...),
	}
}

// P17.1: each goal with all terms of the pool as its arguments, beside the model.
func TestModel(t *testing.T) {
	all := pool()
	for _, p := range preds() {
		args := make([]api.Term, p.Arity)
		var fill func(place int)
		fill = func(place int) {
			if place == p.Arity {
				does(t, goalOf(p.Name, args...), model(goalOf(p.Name, args...)))
				return
			}
			for _, u := range all {
				args[place] = u
				fill(place + 1)
			}
		}
		if p.Arity == 3 { // of which lists of several items tell nothing new
			all = slices.DeleteFunc(slices.Clone(all), func(u api.Term) bool { return len(itemsOf(u)) > 2 })
		}
		fill(0)
	}
}

// anyTerm is some term at most so deep.
func anyTerm(r *rand.Rand, depth int) api.Term {
	k := r.Intn(20)
	switch {
	case k < 5:
		return va(1 + int64(r.Intn(6)))
	case k < 8:
		return nu(int64(r.Intn(12)) - 1)
	case k < 10 || depth < 2:
		return at([]string{"a", "[]", "f", "+"}[r.Intn(4)])
	case k < 14:
		return partial([]api.Term{at("[]"), at("[]"), va(9), at("f")}[r.Intn(4)], anyTerms(r, r.Intn(12), depth-1)...)
	}
	return co([]string{"f", "+", "-", "."}[r.Intn(4)], anyTerms(r, 1+r.Intn(3), depth-1)...)
}

func anyTerms(r *rand.Rand, count, depth int) []api.Term {
	var all []api.Term
	for range count {
		all = append(all, anyTerm(r, depth))
	}
	return all
}

// anyGoal is some goal that is known.
func anyGoal(r *rand.Rand) api.Term {
	all := preds()
	p := all[r.Intn(len(all))]
	return goalOf(p.Name, anyTerms(r, p.Arity, 4)...)
}

// P17.1: goals made at random, beside the model.
func TestAnyGoals(t *testing.T) {
	r := rand.New(rand.NewSource(17))
	for range 40000 {
		goal := anyGoal(r)
		does(t, goal, model(goal))
	}
}

// P17.2: what is told is right; only what isn't a test tells lists; new variables are none of the goal's, and rise by one from left to right.
func TestToldIsRight(t *testing.T) {
	r := rand.New(rand.NewSource(172))
	makers := " = is compare functor arg =.. copy_term "
	news := 0
	for range 40000 {
		goal := anyGoal(r)
		out, ok := pure.Do(goal)
		told := slices.Concat(out.Left, out.Right)
		if !ok || len(out.Left) != len(out.Right) || !out.Ok && len(told) > 0 || out.Ok && out.Ball.Kind != 0 {
			t.Fatalf("%s: %s", text(goal), textOut(out))
		}
		if out.Ok && (len(told) > 0) != strings.Contains(makers, " "+goal.Name+" ") {
			t.Fatalf("%s: %s", text(goal), textOut(out))
		}
		if out.Ball.Kind != 0 {
			told = append(told, out.Ball)
		}
		own, next := term.Vars(goal), above(goal)
		for _, u := range told {
			if e := term.Check(u); e != api.OK {
				t.Fatalf("%s: %s isn't right", text(goal), text(u))
			}
			for _, v := range term.Vars(u) {
				switch {
				case v == next:
					next++
					news++
				case v > next || v >= above(goal) && !slices.Contains([]string{"functor", "copy_term"}, goal.Name) || v < above(goal) && !slices.Contains(own, v):
					t.Fatalf("%s: X%d in %s", text(goal), v, textOut(out))
				}
			}
		}
	}
	if news < 500 {
		t.Errorf("%d new variables", news)
	}
}

// solved is what a goal that comes true makes of a variable that stands alone in it.
func solved(t *testing.T, goal api.Term, v int64) api.Term {
	t.Helper()
	out, ok := pure.Do(goal)
	if !ok || !out.Ok {
		t.Fatalf("%s: %s, %v", text(goal), textOut(out), ok)
	}
	for i, l := range out.Left {
		if same(l, va(v)) {
			return out.Right[i]
		}
	}
	t.Fatalf("%s: nothing for X%d in %s", text(goal), v, textOut(out))
	return api.Term{}
}

// P17.3: what is taken apart is put together again.
func TestTogetherAgain(t *testing.T) {
	r := rand.New(rand.NewSource(173))
	for range 20000 {
		u := anyTerm(r, 4)
		if u.Kind == api.Var {
			continue
		}
		parts := solved(t, co("=..", u, va(20)), 20)
		if again := solved(t, co("=..", va(20), parts), 20); !same(again, u) {
			t.Fatalf("%s =.. %s, from which comes %s", text(u), text(parts), text(again))
		}
		name, count := solved(t, co("functor", u, va(20), va(21)), 20), solved(t, co("functor", u, va(20), va(21)), 21)
		again := solved(t, co("functor", va(20), name, count), 20)
		if again.Kind != u.Kind || again.Name != u.Name || again.Int != u.Int || !sameTerms(again.Args, vars(21, 20+int64(len(u.Args)))) {
			t.Fatalf("functor of %s: %s, %s, from which comes %s", text(u), text(name), text(count), text(again))
		}
		for i, arg := range u.Args {
			if got := solved(t, co("arg", nu(int64(i+1)), u, va(20)), 20); !same(got, arg) {
				t.Fatalf("argument %d of %s: %s", i+1, text(u), text(got))
			}
		}
	}
}

// P17.3: what is put together is taken apart again.
func TestApartAgain(t *testing.T) {
	r := rand.New(rand.NewSource(1731))
	for range 20000 {
		items := append([]api.Term{at("f")}, anyTerms(r, r.Intn(9), 3)...)
		if len(items) == 1 && r.Intn(2) == 0 {
			items[0] = nu(r.Int63())
		}
		made := solved(t, co("=..", va(20), list(items...)), 20)
		if again := solved(t, co("=..", made, va(20)), 20); !same(again, list(items...)) {
			t.Fatalf("%s comes of %s, and is taken apart as %s", text(made), texts(items), text(again))
		}
		count := nu(int64(len(items) - 1))
		made = solved(t, co("functor", va(20), items[0], count), 20)
		name, args := solved(t, co("functor", made, va(20), va(40)), 20), solved(t, co("functor", made, va(41), va(40)), 40)
		if !same(name, items[0]) || !same(args, count) {
			t.Fatalf("%s comes of %s, %s, and is taken apart as %s, %s", text(made), text(items[0]), text(count), text(name), text(args))
		}
	}
}
