package post_test

import (
	"math"
	"testing"

	"pythia/api"
)

// fits asks a queue of one message for a pattern, and fails, if the answer isn't so.
func fits(t *testing.T, message, pattern api.Term, kept api.Term, want bool) {
	t.Helper()
	p := box(t, 1)
	sends(t, p, 1, message, api.OK)
	if !want {
		refuses(t, p.Peek, 1, pattern, api.ErrWait)
		refuses(t, p.Get, 1, pattern, api.ErrWait)
		has(t, p, 1, 1)
		return
	}
	answers(t, p.Peek, 1, pattern, kept)
	answers(t, p.Get, 1, pattern, kept)
	has(t, p, 1, 0)
}

// P14.1, P14.3: a message is kept renamed, from 1 on in the order in which its variables stand in it, and told so, whatever it was asked for by.
func TestRenamed(t *testing.T) {
	for _, x := range []struct{ message, pattern, kept api.Term }{
		{co("f", va(7), va(3), va(7)), va(1), co("f", va(1), va(2), va(1))},
		{co("f", va(7), va(3), va(7)), co("f", at("a"), va(7), va(3)), co("f", va(1), va(2), va(1))},
		{co("f", va(2), va(1)), co("f", va(1), va(1)), co("f", va(1), va(2))},
		{va(math.MaxInt64), at("a"), va(1)},
		{co("f", co("g", va(1<<40), nu(5)), va(1), co("h", va(1<<40), va(9))), va(6), co("f", co("g", va(1), nu(5)), va(2), co("h", va(1), va(3)))},
		{co("f", va(1), va(2)), co("f", co("g", va(1)), va(2001)), co("f", va(1), va(2))},
		{at("a"), va(9), at("a")},
		{nu(-3), va(9), nu(-3)},
	} {
		fits(t, x.message, x.pattern, x.kept, true)
		fits(t, untidy(x.message), untidy(x.pattern), x.kept, true)
	}
}

// P14.1: the message's variables and the pattern's are apart, whatever they are called.
func TestVariablesApart(t *testing.T) {
	for _, n := range []int64{1, 2, 3, 1999, 2000, 2001, 2002, 4000, 1 << 62, math.MaxInt64 - 1} {
		fits(t, co("f", va(n), at("a")), co("f", at("b"), va(n)), co("f", va(1), at("a")), true)
		fits(t, co("f", va(1), at("a")), co("f", at("b"), va(n)), co("f", va(1), at("a")), true)
		fits(t, va(n), co("g", va(n)), va(1), true)
		fits(t, va(1), co("g", va(n)), va(1), true)
		fits(t, co("g", va(n)), va(n), co("g", va(1)), true)
		fits(t, co("f", va(n), va(n+1)), co("f", va(n+1), co("g", va(n))), co("f", va(1), va(2)), true)
		fits(t, co("f", va(n), co("g", va(n))), co("f", va(n), va(n)), api.Term{}, false)
		fits(t, co("f", va(n), va(n)), co("f", va(n), co("g", va(n))), api.Term{}, false)
		fits(t, co("f", va(n), va(n)), co("f", at("a"), at("b")), api.Term{}, false)
		fits(t, co("f", at("a"), at("b")), co("f", va(n), va(n)), api.Term{}, false)
		fits(t, co("f", at("a"), at("a")), co("f", va(n), va(n)), co("f", at("a"), at("a")), true)
	}
	// as many variables as there may be, of the message and of the pattern, those turned round
	next := int64(4000)
	back := func() api.Term {
		next--
		return va(next)
	}
	many := sized(2000, from(1))
	fits(t, many, sized(2000, back), many, true)
	many = co("f", sized(1998, from(2)), va(1))
	fits(t, many, co("f", va(1), co("g", va(1))), named(many, map[int64]int64{}), true)
}

// full is a term of so many compound ones, each of eight arguments, whose variables are what next says, from left to right.
func full(compound int, next func() api.Term) api.Term {
	if compound == 0 {
		return next()
	}
	args := make([]api.Term, 8)
	for i := range args {
		args[i] = full((compound-1+i)/8, next)
	}
	return co("w", args...)
}

// aimed is a term with put in the place of a variable, and with what next says in the places of those parts in which that doesn't stand.
func aimed(t api.Term, v int64, put api.Term, next func() api.Term) api.Term {
	switch {
	case !within(v, t, nil):
		return next()
	case t.Kind == api.Var:
		return put
	}
	args := make([]api.Term, len(t.Args))
	for i, arg := range t.Args {
		args[i] = aimed(arg, v, put, next)
	}
	return co(t.Name, args...)
}

// P14.1: none of a great many variables is one of the pattern's: else it would have to become a term in which it stands.
func TestManyVariablesApart(t *testing.T) {
	message := full(249, from(1))
	vars := int64(1 + 7*249)
	p := box(t, 1)
	sends(t, p, 1, message, api.OK)
	for v := int64(1); v <= vars; v++ {
		answers(t, p.Peek, 1, aimed(message, v, co("g", va(v)), from(3000)), message)
	}
}

// P14.1: what fits, and what doesn't, by names, kinds, numbers and how many arguments there are.
func TestFits(t *testing.T) {
	a := at("a")
	for _, x := range []struct {
		message, pattern api.Term
		want             bool
	}{
		{a, a, true}, {a, at("b"), false}, {a, at(""), false}, {nu(1), nu(1), true}, {nu(1), nu(-1), false}, {nu(1), at("1"), false}, {at("1"), nu(1), false},
		{a, co("a", a), false}, {co("a", a), a, false}, {co("a", a), co("a", a), true}, {co("a", a), co("b", a), false}, {co("a", a, a), co("a", a), false}, {co("a", a), co("a", a, a), false},
		{co("a", co("b", nu(1)), a), co("a", co("b", nu(2)), a), false}, {co("a", co("b", nu(1)), a), co("a", co("b", va(2)), va(3)), true},
		{nu(math.MaxInt64), nu(math.MinInt64), false}, {nu(math.MinInt64), nu(math.MinInt64), true},
	} {
		fits(t, x.message, x.pattern, x.message, x.want)
	}
}

// P14.1, P14.2: a solution that is too great is one, too; where there is none, nothing fits, however great it would be.
func TestTooGreat(t *testing.T) {
	a, b := at("a"), at("b")
	deep := tower(va(1), 60)
	fits(t, co("f", va(1), deep), co("f", tower(a, 60), va(1)), co("f", va(1), deep), true)
	fits(t, co("f", va(1), deep, a), co("f", tower(a, 60), va(1), b), api.Term{}, false)
	fits(t, co("f", va(1), deep, va(1)), co("f", va(1), va(2), tower(va(2), 60)), api.Term{}, false)
	wide := sized(1000, always(va(1)))
	fits(t, co("f", va(1), wide), co("f", sized(1000, always(a)), va(1)), co("f", va(1), wide), true)
	fits(t, co("f", va(1), wide, a), co("f", sized(1000, always(a)), va(1), b), api.Term{}, false)
}

// P14.1: a solution that is twice as great at each of many variables is found, or told not to be, at once.
func TestGrown(t *testing.T) {
	left, right := at("end"), at("end")
	for i := range int64(90) { // X2 = d(X1, X1), X3 = d(X2, X2), and so on
		left, right = co("r", va(i+2), left), co("r", co("d", va(i+1), va(i+1)), right)
	}
	grown := named(co("q", right, left), map[int64]int64{})
	fits(t, grown, co("q", va(1), va(1)), grown, true)
	fits(t, co("q", va(1), va(1)), grown, co("q", va(1), va(1)), true)
	fits(t, co("p", grown, at("a")), co("p", co("q", va(1), va(1)), at("b")), api.Term{}, false)
	ring := co("q", grown, co("r", va(90), va(91))) // X90 is what was X1
	fits(t, ring, co("q", co("q", va(1), va(1)), co("r", va(2), va(3))), ring, true)
	fits(t, ring, co("q", co("q", va(1), va(1)), co("r", va(2), va(2))), api.Term{}, false)
}

// P14.2: among several messages, too, the first one is got whose solution is too great.
func TestTooGreatFirst(t *testing.T) {
	p := box(t, 4)
	a, deep := at("a"), tower(va(4), 60)
	pattern := co("f", tower(a, 60), va(1), va(2))
	sends(t, p, 1, co("g", va(1), deep, a), api.OK)
	sends(t, p, 1, co("f", va(4), deep, nu(1)), api.OK)
	sends(t, p, 1, co("f", va(4), a, nu(2)), api.OK)
	sends(t, p, 1, co("f", va(4), deep, nu(3)), api.OK)
	kept := tower(va(1), 60)
	answers(t, p.Get, 1, pattern, co("f", va(1), kept, nu(1)))
	answers(t, p.Get, 1, pattern, co("f", va(1), a, nu(2)))
	answers(t, p.Get, 1, pattern, co("f", va(1), kept, nu(3)))
	refuses(t, p.Get, 1, pattern, api.ErrWait)
	has(t, p, 1, 1)
}
