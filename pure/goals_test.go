package pure_test

import (
	"strings"
	"testing"

	"pythia/api"
	"pythia/pure"
)

// P17.1: goals without arguments.
func TestNone(t *testing.T) {
	does(t, at("true"), yes())
	does(t, at("fail"), no())
	does(t, at("false"), no())
}

// samples are terms of each kind, and what they are.
func samples() []struct {
	term api.Term
	is   string
} {
	return []struct {
		term api.Term
		is   string
	}{
		{va(1), "var"},
		{va(mostVar), "var"},
		{nu(0), "nonvar integer number atomic"},
		{nu(least), "nonvar integer number atomic"},
		{at("a"), "nonvar atom atomic callable"},
		{at(""), "nonvar atom atomic callable"},
		{at("1"), "nonvar atom atomic callable"},
		{at("[]"), "nonvar atom atomic callable is_list"},
		{at("."), "nonvar atom atomic callable"},
		{co("f", va(1)), "nonvar compound callable"},
		{co("[]", va(1)), "nonvar compound callable"},
		{list(va(1)), "nonvar compound callable is_list"},
		{list(nu(1), va(1), va(1)), "nonvar compound callable is_list"},
		{list(times(97, at("a"))...), "nonvar compound callable is_list"},
		{partial(va(1), nu(1)), "nonvar compound callable"},
		{partial(at("b"), nu(1), nu(2)), "nonvar compound callable"},
		{partial(nu(0), nu(1)), "nonvar compound callable"},
		{partial(co(".", at("[]")), nu(1)), "nonvar compound callable"},
		{co(".", nu(1), nu(2), at("[]")), "nonvar compound callable"},
		{co(".", at("[]")), "nonvar compound callable"},
		{co("f", at("a"), at("[]")), "nonvar compound callable"},
		{list(list()), "nonvar compound callable is_list"},
	}
}

// P17.1, P17.2: tests of a term's kind.
func TestKinds(t *testing.T) {
	for _, p := range preds() {
		if p.Arity != 1 {
			continue
		}
		for _, s := range samples() {
			is := strings.Contains(" "+s.is+" ", " "+p.Name+" ")
			does(t, co(p.Name, s.term), holding(is))
		}
	}
}

// ordered are terms in the standard order.
func ordered() []api.Term {
	return []api.Term{
		va(1), va(9), va(mostVar),
		nu(least), nu(-1), nu(0), nu(3), nu(greatest),
		at(""), at("B"), at("a"), at("aa"), at("b"), at("é"),
		co("f", va(2)), co("f", at("a")), co("g", va(1)), co("g", nu(1)),
		co("a", at("a"), at("a")), co("f", va(1), at("b")), co("f", va(2), at("a")), co("f", at("a"), va(1)),
		co("a", nu(1), nu(2), nu(3)),
	}
}

// P17.1, P17.2: tests of the standard order, and compare.
func TestOrder(t *testing.T) {
	all := ordered()
	for i, a := range all {
		for j, b := range all {
			for name, is := range map[string]bool{"==": i == j, `\==`: i != j, "@<": i < j, "@=<": i <= j, "@>": i > j, "@>=": i >= j} {
				does(t, co(name, a, b), holding(is))
			}
			sign := "="
			if i < j {
				sign = "<"
			} else if i > j {
				sign = ">"
			}
			for _, o := range []api.Term{va(1), va(3), nu(1), at("<"), at("foo"), co("f", va(2))} {
				does(t, co("compare", o, a, b), unites(o, at(sign)))
			}
		}
	}
}

// P17.1: = tells its arguments, whether they can be made the same or not.
func TestUnite(t *testing.T) {
	for _, pair := range unlike() {
		for _, ab := range [][2]api.Term{{pair.a, pair.b}, {pair.b, pair.a}} {
			does(t, co("=", ab[0], ab[1]), unites(ab[0], ab[1]))
		}
	}
}

// growing are two terms; to make them the same, X1 has to become a term of more than 2^height symbols. What stands beside them may make them unlike.
func growing(height int64, a, b api.Term) (api.Term, api.Term) {
	for n := height; n > 0; n-- {
		a = co("p", va(n), a)
		b = co("p", co("d", va(n+1), va(n+1)), b)
	}
	return a, b
}

// deepening are two terms; to make them the same, X1 has to become a term of a depth of so many.
func deepening(depth int64) (a, b api.Term) {
	half := int(depth-1) / 2
	return co("p", va(1), va(2)), co("p", tower(half+1, va(2)), tower(int(depth)-half, at("a")))
}

type unlikely struct {
	a, b    api.Term
	differs bool
}

// unlike are pairs of terms, and whether they have no solution.
func unlike() []unlikely {
	greatA, greatB := growing(11, at("a"), at("a"))
	fitA, fitB := growing(9, at("a"), at("a"))
	clashA, clashB := growing(11, at("a"), at("b"))
	ringA, ringB := growing(11, va(12), co("s", va(12)))
	longA, longB := growing(40, at("a"), at("a"))
	deepA, deepB := deepening(101)
	justA, justB := deepening(100)
	return []unlikely{
		{at("a"), at("a"), false},
		{at("a"), at("b"), true},
		{nu(1), nu(1), false},
		{nu(1), nu(2), true},
		{nu(1), at("1"), true},
		{nu(0), at(""), true},
		{va(1), va(1), false},
		{va(1), va(2), false},
		{va(1), nu(1), false},
		{va(1), co("f", va(2)), false},
		{va(1), co("f", va(1)), true},
		{at("f"), co("f", va(1)), true},
		{co("f", va(1)), co("g", va(1)), true},
		{co("f", va(1)), co("f", va(1), va(2)), true},
		{co("f", va(1), at("b")), co("f", at("a"), va(2)), false},
		{co("f", va(1), va(1)), co("f", at("a"), at("b")), true},
		{co("f", va(1), va(1)), co("f", at("a"), va(2)), false},
		{co("f", va(1), va(2)), co("f", co("s", va(2)), co("s", va(1))), true},
		{co("f", va(1), va(2)), co("f", va(2), va(1)), false},
		{fitA, fitB, false},
		{greatA, greatB, false},
		{longA, longB, false},
		{justA, justB, false},
		{deepA, deepB, false},
		{clashA, clashB, true},
		{ringA, ringB, true},
	}
}

// P17.1, P17.2: \= of each sort of terms, a solution that is too great among them.
func TestDiffer(t *testing.T) {
	for _, pair := range unlike() {
		does(t, co(`\=`, pair.a, pair.b), holding(pair.differs))
		does(t, co(`\=`, pair.b, pair.a), holding(pair.differs))
	}
}

// worths are terms with what they are worth, or with their ball.
func worths() []struct {
	term api.Term
	num  int64
	ball pure.Out
} {
	return []struct {
		term api.Term
		num  int64
		ball pure.Out
	}{
		{nu(5), 5, no()},
		{nu(least), least, no()},
		{co("+", nu(1), co("*", nu(2), nu(3))), 7, no()},
		{co("//", nu(-7), nu(2)), -3, no()},
		{co("mod", nu(-7), nu(2)), 1, no()},
		{co("-", nu(7)), -7, no()},
		{co("max", nu(5), nu(4)), 5, no()},
		{va(1), 0, inst()},
		{co("+", nu(1), va(2)), 0, inst()},
		{at("a"), 0, noFunction("a", 0)},
		{at("[]"), 0, noFunction("[]", 0)},
		{co("+", nu(1), at("b")), 0, noFunction("b", 0)},
		{co("foo", va(1), nu(2)), 0, noFunction("foo", 2)},
		{co("+", nu(1), nu(2), nu(3)), 0, noFunction("+", 3)},
		{co("+", nu(greatest), nu(1)), 0, flawed("int_overflow")},
		{co("//", nu(least), nu(-1)), 0, flawed("int_overflow")},
		{co("//", nu(1), nu(0)), 0, flawed("zero_divisor")},
		{co("mod", nu(1), nu(0)), 0, flawed("zero_divisor")},
		{co("<<", nu(1), nu(-1)), 0, flawed("undefined")},
		{co("^", nu(2), nu(-1)), 0, flawed("undefined")},
		{list(nu(1)), 0, noFunction(".", 2)},
	}
}

// P17.1: is, with each sort of term on its left, and each ball of its right.
func TestIs(t *testing.T) {
	for _, w := range worths() {
		for _, x := range []api.Term{va(1), va(5), nu(5), nu(4), at("a"), co("+", nu(1), nu(1)), co("foo", va(1))} {
			want := w.ball
			if want.Ball.Kind == 0 {
				want = unites(x, nu(w.num))
			}
			does(t, co("is", x, w.term), want)
		}
	}
}

// P17.1, P17.2: comparisons, with each ball on each side, the left one's first.
func TestComparisons(t *testing.T) {
	for _, a := range worths() {
		for _, b := range worths() {
			x, y := a.num, b.num
			for name, is := range map[string]bool{"=:=": x == y, `=\=`: x != y, "<": x < y, "=<": x <= y, ">": x > y, ">=": x >= y} {
				want := holding(is)
				if b.ball.Ball.Kind != 0 {
					want = b.ball
				}
				if a.ball.Ball.Kind != 0 {
					want = a.ball
				}
				does(t, co(name, a.term, b.term), want)
			}
		}
	}
}
