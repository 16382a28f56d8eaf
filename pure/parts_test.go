package pure_test

import (
	"slices"
	"strings"
	"testing"

	"pythia/api"
)

// eight are eight arguments.
func eight() []api.Term {
	return []api.Term{va(1), nu(2), at("c"), co("d", va(1)), va(5), nu(6), at("g"), list(va(8))}
}

// P17.1: functor of a term that is there, whatever its name and number are held against.
func TestFunctorApart(t *testing.T) {
	for _, c := range []struct {
		term, name api.Term
		args       int64
	}{
		{at("a"), at("a"), 0},
		{at(""), at(""), 0},
		{at("[]"), at("[]"), 0},
		{nu(7), nu(7), 0},
		{nu(least), nu(least), 0},
		{co("f", va(1)), at("f"), 1},
		{co("f", co("g", va(1), nu(3)), nu(2)), at("f"), 2},
		{list(nu(1)), at("."), 2},
		{co("", eight()...), at(""), 8},
	} {
		for _, n := range []api.Term{va(1), va(20), at("f"), nu(7), co("f", va(1))} {
			for _, a := range []api.Term{va(1), va(2), nu(1), nu(-1), nu(9), at("x"), list(va(3))} {
				does(t, co("functor", c.term, n, a), unites(n, c.name, a, nu(c.args)))
			}
		}
	}
}

// P17.1: functor of a variable: which ball comes first, and what is put together.
func TestFunctorTogether(t *testing.T) {
	x, long := va(3), strings.Repeat("x", 64)
	g := co("g", va(4))
	for _, name := range []api.Term{va(3), va(7), nu(1), at("foo"), at("[]"), at(""), at(long), g, list(nu(1))} {
		for _, args := range []api.Term{va(3), va(8)} {
			does(t, co("functor", x, name, args), inst())
		}
		for _, args := range []api.Term{at("a"), at("0"), at("[]"), g, list(nu(1))} {
			if name.Kind == api.Var {
				does(t, co("functor", x, name, args), inst())
			} else {
				does(t, co("functor", x, name, args), typed("integer", args))
			}
		}
		for _, args := range []int64{-1, -9, least} {
			if name.Kind == api.Var {
				does(t, co("functor", x, name, nu(args)), inst())
			} else {
				does(t, co("functor", x, name, nu(args)), belowZero(args))
			}
		}
		for _, args := range []int64{0, 1, 7, 8, 9, 10, 1 << 32, 1<<32 + 1, greatest} {
			goal := co("functor", x, name, nu(args))
			switch {
			case name.Kind == api.Var:
				does(t, goal, inst())
			case name.Kind == api.Comp:
				does(t, goal, typed("atomic", name))
			case args == 0:
				does(t, goal, unites(x, name))
			case name.Kind == api.Num:
				does(t, goal, typed("callable", name))
			case args > 8:
				does(t, goal, tooMany())
			default:
				does(t, goal, unites(x, co(name.Name, vars(4, 3+args)...)))
			}
		}
	}
	does(t, co("functor", va(1), at("foo"), nu(2)), unites(va(1), co("foo", va(2), va(3))))
	does(t, co("functor", va(mostVar), at("f"), nu(8)), unites(va(mostVar), co("f", vars(mostVar+1, mostVar+8)...)))
}

// P17.1: arg, and which of its outcomes comes first.
func TestArg(t *testing.T) {
	one, all := co("f", va(2)), co("f", eight()...)
	kinds := []api.Term{va(1), va(4), nu(0), nu(3), at("a"), at("[]"), one, all}
	for _, n := range []api.Term{va(1), va(9), at("a"), at("1"), at("[]"), one, list(nu(1)), nu(least), nu(-1), nu(0), nu(1), nu(2), nu(7), nu(8), nu(9), nu(1 << 32), nu(1<<32 + 1), nu(greatest)} {
		for _, from := range kinds {
			for _, a := range []api.Term{va(1), va(12), nu(2), co("g", va(2))} {
				goal := co("arg", n, from, a)
				switch {
				case n.Kind == api.Var, from.Kind == api.Var:
					does(t, goal, inst())
				case n.Kind != api.Num:
					does(t, goal, typed("integer", n))
				case from.Kind != api.Comp:
					does(t, goal, typed("compound", from))
				case n.Int < 0:
					does(t, goal, belowZero(n.Int))
				case n.Int < 1 || n.Int > int64(len(from.Args)):
					does(t, goal, no())
				default:
					does(t, goal, unites(a, from.Args[n.Int-1]))
				}
			}
		}
	}
	does(t, co("arg", nu(2), co("f", at("a"), at("b")), va(1)), unites(va(1), at("b")))
}

// P17.1: =.. of a term that is there, whatever its list is held against.
func TestUnivApart(t *testing.T) {
	for _, c := range []struct{ term, list api.Term }{
		{at("a"), list(at("a"))},
		{at("[]"), list(at("[]"))},
		{at(""), list(at(""))},
		{nu(7), list(nu(7))},
		{nu(least), list(nu(least))},
		{co("f", va(1)), list(at("f"), va(1))},
		{co("f", co("g", va(2)), va(1), va(2)), list(at("f"), co("g", va(2)), va(1), va(2))},
		{list(nu(1), nu(2)), list(at("."), nu(1), list(nu(2)))},
		{co("[]", nu(1)), list(at("[]"), nu(1))},
		{co("f", eight()...), list(append([]api.Term{at("f")}, eight()...)...)},
	} {
		for _, l := range []api.Term{va(1), va(30), nu(3), at("a"), at("[]"), co("f", va(2)), list(va(1), va(2)), partial(va(2), at("f")), list(nu(1), nu(2)), list(co("f", nu(1)))} {
			does(t, co("=..", c.term, l), unites(l, c.list))
		}
	}
}

// P17.1: =.. of a variable and no list, or a partial one: which ball comes first.
func TestUnivNoList(t *testing.T) {
	x := va(2)
	for _, l := range []api.Term{
		va(2), va(3),
		partial(va(3), at("f")),
		partial(va(2), at("f"), nu(1)),
		partial(va(3), nu(1)),
		partial(va(3), co("f", nu(1)), nu(2)),
		partial(va(3), times(12, at("a"))...),
		list(va(3)), list(va(2), nu(1)),
		list(append(vars(3, 3), times(20, nu(1))...)...),
		partial(va(4), va(3)),
		partial(nu(1), va(3)),
		partial(at("b"), va(3), nu(2)),
	} {
		does(t, co("=..", x, l), inst())
	}
	for _, l := range []api.Term{
		nu(0), at("a"), at("."), at(""),
		co("f", at("a")), co("f", at("a"), at("[]")), co(".", at("[]")), co(".", at("a"), at("[]"), at("[]")),
		partial(at("b"), at("f")),
		partial(nu(1), at("f"), va(3)),
		partial(co("f", va(2)), at("f")),
		partial(co("g", nu(1)), co("f", nu(1)), nu(2)),
		partial(at("nil"), times(12, nu(1))...),
	} {
		does(t, co("=..", x, l), typed("list", l))
	}
	does(t, co("=..", x, at("[]")), domain("non_empty_list", at("[]")))
}

// P17.1: =.. of a variable and a list: one item, as many others as may be, one more.
func TestUnivTogether(t *testing.T) {
	x := va(2)
	for _, first := range []api.Term{at("a"), at("[]"), at(""), nu(7), nu(least), co("f", va(1)), list(nu(1))} {
		if first.Kind == api.Comp {
			does(t, co("=..", x, list(first)), typed("atomic", first))
		} else {
			does(t, co("=..", x, list(first)), unites(x, first))
		}
		for others := 1; others <= 20; others++ {
			args := slices.Concat(eight(), eight(), eight())[:others]
			goal := co("=..", x, list(append([]api.Term{first}, args...)...))
			switch {
			case first.Kind != api.Atom:
				does(t, goal, typed("callable", first))
			case others > 8:
				does(t, goal, tooMany())
			default:
				does(t, goal, unites(x, co(first.Name, args...)))
			}
		}
	}
	does(t, co("=..", va(1), list(at("foo"), at("a"))), unites(va(1), co("foo", at("a"))))
	does(t, co("=..", va(1), list(at("f"), va(1))), unites(va(1), co("f", va(1))))
}

// P17.1, P17.2: copies have new variables, in the order in which they stand in them.
func TestCopy(t *testing.T) {
	for _, c := range []struct{ a, b, copied api.Term }{
		{at("a"), va(1), at("a")},
		{nu(3), va(1), nu(3)},
		{co("f", nu(3), list(at("a"))), va(1), co("f", nu(3), list(at("a")))},
		{at("a"), at("b"), at("a")},
		{va(1), va(2), va(3)},
		{va(1), va(1), va(2)},
		{va(9), at("b"), va(10)},
		{co("f", va(5), va(3)), va(9), co("f", va(10), va(11))},
		{co("f", va(5), va(3), va(5)), va(4), co("f", va(6), va(7), va(6))},
		{co("f", co("g", va(3), va(2)), va(3), va(1)), co("f", va(3)), co("f", co("g", va(4), va(5)), va(4), va(6))},
		{co("f", va(1)), co("h", va(20), va(7)), co("f", va(21))},
		{co("f", vars(1, 8)...), va(1), co("f", vars(9, 16)...)},
		{va(mostVar), va(1), va(mostVar + 1)},
		{co("f", va(2), va(1)), va(mostVar), co("f", va(mostVar+1), va(mostVar+2))},
	} {
		does(t, co("copy_term", c.a, c.b), unites(c.b, c.copied))
	}
}
