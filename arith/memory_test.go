package arith_test

import (
	"math/rand"
	"slices"
	"testing"

	"pythia/api"
	"pythia/arith"
)

// roomy is a term in new memory, whose lists of arguments have spare room with a mark in it.
func roomy(t api.Term) api.Term {
	if t.Kind != api.Comp {
		return t
	}
	args := make([]api.Term, 0, len(t.Args)+1)
	for _, arg := range t.Args {
		args = append(args, roomy(arg))
	}
	t.Args = append(args, at("spare"))[:len(args)]
	return t
}

// unspoilt tells whether a term that roomy made is still the one that it was made of, its spare room too.
func unspoilt(t, was api.Term) bool {
	if t.Kind != was.Kind || t.Name != was.Name || t.Int != was.Int || len(t.Args) != len(was.Args) {
		return false
	}
	return t.Kind != api.Comp || same(t.Args[:len(t.Args)+1][len(t.Args)], at("spare")) && slices.EqualFunc(t.Args, was.Args, unspoilt)
}

// spoil writes over all memory of a term, its spare room too.
func spoil(t api.Term) {
	for i := range t.Args {
		spoil(t.Args[i])
	}
	all := t.Args[:cap(t.Args)]
	for i := range all {
		all[i] = nu(-99)
	}
}

// answers are the balls that the calls answer of two terms.
func answers(a, b api.Term) []api.Term {
	args := append(make([]api.Term, 0, 3), a, b)
	_, x, _ := arith.Eval(a)
	_, y, _ := arith.Eval(b)
	return []api.Term{x, y, arith.Ball(a), arith.Ball(b), arith.Fault("f", a), arith.Fault("g", args...), arith.Fault("h", a, a, b)}
}

// P12.3: answers hold while arguments are written over, and arguments while answers are.
func TestMemory(t *testing.T) {
	r := rand.New(rand.NewSource(123))
	for range 3000 {
		a, b := anyTerm(r, 4), anyTerm(r, 4)
		x, y := roomy(a), roomy(b)
		want, held := answers(a, b), answers(x, y)
		if !slices.EqualFunc(held, want, same) || !unspoilt(x, a) || !unspoilt(y, b) {
			t.Fatalf("%s, %s: the arguments were changed", text(a), text(b))
		}
		spoil(x)
		spoil(y)
		if !slices.EqualFunc(held, want, same) {
			t.Fatalf("%s, %s: the answers hang on the arguments", text(a), text(b))
		}
		x, y = roomy(a), roomy(b)
		for i, u := range answers(x, y) {
			spoil(u)
			if !unspoilt(x, a) || !unspoilt(y, b) || !slices.EqualFunc(answers(a, b), want, same) {
				t.Fatalf("%s, %s: answer %d hangs on the arguments, or later answers on it", text(a), text(b), i)
			}
		}
	}
}

// P12.3: the list that Fault is told is neither changed nor kept.
func TestFaultList(t *testing.T) {
	list := []api.Term{co("f", va(1)), at("b"), at("spare")}
	got := arith.Fault("x", list[:2]...)
	if !same(list[0], co("f", va(1))) || !same(list[1], at("b")) || !same(list[2], at("spare")) {
		t.Errorf("%v", list)
	}
	list[0].Args[0] = nu(9)
	clear(list)
	if !same(got, ball(co("x", co("f", va(1)), at("b")))) {
		t.Errorf("%s hangs on the list", text(got))
	}
	spoil(got)
	if !same(arith.Fault("x", va(1)), ball(co("x", va(1)))) || !same(arith.Fault("x"), ball(at("x"))) {
		t.Error("an answer hangs on another one")
	}
}

// apart fails, if two lists of arguments in a term share memory, spare room too.
func apart(t *testing.T, seen map[*api.Term]int, u api.Term) {
	t.Helper()
	all := u.Args[:cap(u.Args)]
	for i := range all {
		if seen[&all[i]]++; seen[&all[i]] > 1 {
			t.Fatalf("%s shares memory", text(u))
		}
	}
	for _, arg := range u.Args {
		apart(t, seen, arg)
	}
}

// P12.3: no two lists of one answer share memory.
func TestApart(t *testing.T) {
	part := co("g", va(1), nu(2))
	for _, u := range []api.Term{arith.Ball(co("f", part, part)), arith.Fault("f", part, part), arith.Fault("f", co("h", part, part), part)} {
		if u.Kind != api.Comp {
			t.Fatal("no ball")
		}
		apart(t, map[*api.Term]int{}, u)
	}
}
