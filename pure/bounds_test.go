package pure_test

import (
	"math"
	"slices"
	"strconv"
	"strings"
	"testing"

	"pythia/api"
	"pythia/pure"
)

// P17.1: what is known are just these predicates, of these numbers of arguments alone.
func TestKnows(t *testing.T) {
	known := map[api.Pred]int{}
	for _, p := range preds() {
		known[p]++
	}
	if len(known) != 32 {
		t.Fatalf("%d predicates", len(known))
	}
	others := []string{"", "call", "catch", "throw", ",", ";", "->", `\+`, "!", "not", "halt", "op", "assertz", "retract", "clause", "once", "ground", "string", "float", "is_assoc", "list", "length", "append", "TRUE", "True", "true ", " true", "functor/3", "=", "true/0", "=:", "=>", "==>", "=@=", "unify_with_occurs_check", "succ", "plus", "term_variables", "[]", ".", strings.Repeat("x", 65), strings.Repeat("=", 1<<20)}
	for _, p := range preds() {
		others = append(others, p.Name)
	}
	for _, name := range others {
		for _, arity := range []int{math.MinInt, -1, 0, 1, 2, 3, 4, 5, 8, 9, 1 << 32, 1<<32 + 1, 1<<32 + 2, 1<<32 + 3, math.MaxInt} {
			p := api.Pred{Name: name, Arity: arity}
			if got := pure.Knows(p); got != (known[p] > 0) {
				t.Errorf("Knows(%.20s / %d) = %v", name, arity, got)
			}
		}
	}
}

// P17.1: of goals of other predicates, and of what is no goal, nothing is told.
func TestUnknown(t *testing.T) {
	known := preds()
	for _, p := range known {
		for arity := range 9 {
			if q := (api.Pred{Name: p.Name, Arity: arity}); !slices.Contains(known, q) {
				refuses(t, p.Name+" with "+strconv.Itoa(arity), goalOf(p.Name, times(arity, nu(1))...))
				refuses(t, p.Name+" with variables", goalOf(p.Name, vars(1, int64(arity))...))
			}
		}
	}
	for _, goal := range []api.Term{va(1), nu(0), nu(7), at(""), at("foo"), at("[]"), at("!"), co("call", at("true")), co(",", at("true"), at("true")), co(`\+`, at("fail")), co("foo", va(1)), list(at("true"))} {
		refuses(t, text(goal), goal)
		refuses(t, text(goal)+", untidy", untidy(goal))
	}
	for _, kind := range []int{0, -1, 5, api.Var, api.Num} {
		refuses(t, "a known name of another kind", api.Term{Kind: kind, Name: "true", Int: 1})
		refuses(t, "a known name of another kind", api.Term{Kind: kind, Name: "var", Int: 1, Args: []api.Term{va(1)}})
		refuses(t, "a known name of another kind", api.Term{Kind: kind, Name: "=", Int: 1, Args: []api.Term{va(1), nu(1)}})
	}
	refuses(t, "true without arguments", co("true"))
	refuses(t, "fail without arguments", co("fail"))
}

// P17.1: of goals that aren't right nothing is told, whatever stands beside what isn't.
func TestWrongGoals(t *testing.T) {
	for name, w := range wrong() {
		refuses(t, name, w)
		for _, p := range preds() {
			for place := range p.Arity {
				for _, beside := range []api.Term{va(1), nu(1), at("a"), co("f", va(1)), list(at("f"), nu(1))} {
					args := times(p.Arity, beside)
					args[place] = w
					refuses(t, p.Name+" of "+name, co(p.Name, args...))
					args[place] = co("f", at("a"), w)
					refuses(t, p.Name+" of f of "+name, co(p.Name, args...))
				}
			}
		}
	}
}

// P17.1: goals as great and as deep as may be, and beyond.
func TestGreatGoals(t *testing.T) {
	for _, great := range []api.Term{sized(1997, va(1)), sized(1997, at("a")), tower(99, va(1)), tower(99, nu(2))} {
		does(t, co("nonvar", great), yes())
		does(t, co("is_list", great), no())
		does(t, co("=", va(7), great), unites(va(7), great))
		does(t, co("@<", va(7), great), yes())
		does(t, co("compare", va(7), va(8), great), unites(va(7), at("<")))
		does(t, co("arg", nu(1), great, va(7)), unites(va(7), great.Args[0]))
		does(t, co("functor", great, va(7), va(8)), unites(va(7), at(great.Name), va(8), nu(int64(len(great.Args)))))
	}
	does(t, co("copy_term", sized(1997, va(1)), va(2)), unites(va(2), sized(1997, va(3))))
	does(t, co("copy_term", tower(99, va(1)), va(2)), unites(va(2), tower(99, va(3))))
	does(t, co("nonvar", sized(1999, at("a"))), yes())
	refuses(t, "a goal of too many symbols", co("nonvar", sized(2000, at("a"))))
	refuses(t, "too deep a goal", co("nonvar", tower(100, at("a"))))
	refuses(t, "too deep a goal", co("=", tower(100, at("a")), va(1)))
}

// P17.1: variables up to 2^60, and above.
func TestGreatVars(t *testing.T) {
	for _, p := range preds() {
		for place := range p.Arity {
			for _, beside := range []api.Term{va(1), nu(1), co("f", va(1))} {
				for _, within := range []func(api.Term) api.Term{
					func(t api.Term) api.Term { return t },
					func(t api.Term) api.Term { return co("f", nu(1), co("g", t)) },
				} {
					args := times(p.Arity, beside)
					args[place] = within(va(mostVar))
					if _, ok := pure.Do(co(p.Name, args...)); !ok {
						t.Fatalf("%s: nothing is told", text(co(p.Name, args...)))
					}
					for _, above := range []int64{mostVar + 1, mostVar + 2, 1 << 62, greatest} {
						args[place] = within(va(above))
						refuses(t, p.Name+" of a great variable", co(p.Name, args...))
					}
				}
			}
		}
	}
}

// P17.1, P17.2: nothing is told, if a list isn't right: it has more symbols than the term, and is deeper.
func TestGreatLists(t *testing.T) {
	for args := 1; args <= 8; args++ {
		ending := func(last api.Term) api.Term { return co("f", append(times(args-1, nu(1)), last)...) }
		listed := func(u api.Term) api.Term { return list(append([]api.Term{at("f")}, u.Args...)...) }
		// a term of n symbols has a list of n + args + 2
		fits, great := ending(sized(1998-2*args, nu(1))), ending(sized(1999-2*args, nu(1)))
		does(t, co("=..", fits, va(1)), unites(va(1), listed(fits)))
		refuses(t, "a list of 2001 symbols", co("=..", great, va(1)))
		refuses(t, "a list of 2001 symbols, held against a number", co("=..", great, nu(1)))
		// its last argument stands so many deeper in the list
		fits, great = ending(tower(99-args, nu(1))), ending(tower(100-args, nu(1)))
		does(t, co("=..", fits, va(1)), unites(va(1), listed(fits)))
		refuses(t, "a list of a depth of 101", co("=..", great, va(1)))
		refuses(t, "a list of a depth of 101, held against a number", co("=..", great, nu(1)))
	}
	early := co("f", tower(98, nu(1)), nu(1))
	does(t, co("=..", early, va(1)), unites(va(1), list(at("f"), early.Args[0], nu(1))))
}

// P17.1, P17.2: nothing is told, if a ball isn't right, since it is greater than the goal.
func TestGreatBalls(t *testing.T) {
	for _, c := range []struct {
		goal func(culprit api.Term) api.Term
		kind string
		most int // symbols of a culprit whose goal is right
	}{
		{func(c api.Term) api.Term { return co("functor", va(1), at("f"), c) }, "integer", 1997},
		{func(c api.Term) api.Term { return co("functor", va(1), c, nu(0)) }, "atomic", 1997},
		{func(c api.Term) api.Term { return co("functor", va(1), c, nu(9)) }, "atomic", 1997},
		{func(c api.Term) api.Term { return co("arg", c, at("a"), va(1)) }, "integer", 1997},
		{func(c api.Term) api.Term { return co("=..", va(1), c) }, "list", 1998},
	} {
		does(t, c.goal(sized(1996, va(1))), typed(c.kind, sized(1996, va(1))))
		for size := 1997; size <= c.most; size++ {
			refuses(t, "a ball of "+strconv.Itoa(size+4)+" symbols", c.goal(sized(size, va(1))))
		}
		does(t, c.goal(tower(98, va(1))), typed(c.kind, tower(98, va(1))))
		refuses(t, "a ball of a depth of 101", c.goal(tower(99, va(1))))
	}
	does(t, co("=..", va(1), list(sized(1996, va(1)))), typed("atomic", sized(1996, va(1))))
	does(t, co("=..", va(1), list(tower(98, va(1)))), typed("atomic", tower(98, va(1))))
	does(t, co("=..", va(1), list(sized(1994, va(1)), va(2))), typed("callable", sized(1994, va(1))))
	does(t, co("=..", va(1), list(tower(98, va(1)), va(2))), typed("callable", tower(98, va(1))))
}
