package code_test

import (
	"slices"
	"strings"
	"testing"

	"pythia/api"
	"pythia/code"
)

// P18.1: goals, with and without variables.
func TestGoals(t *testing.T) {
	for _, c := range []struct {
		goal api.Term
		want string
	}{
		{at("true"), "$goal/0, 0, 0: Done"},
		{at("a"), "$goal/0, 0, 0: Call a; Done"},
		{at("!"), "$goal/0, 0, 0: Cut; Done"},
		{at("false"), "$goal/0, 0, 0: Fail; Done"},
		{at("$goal"), "$goal/0, 0, 0: Call $goal; Done"},
		{va(1), "$goal/1, 1, 0: Get 1 X1; Call X1; Done"},
		{va(1<<63 - 1), "$goal/1, 1, 0: Get 1 X1; Call X1; Done"},
		{co("p", va(9)), "$goal/1, 1, 0: Get 1 X1; Call p(X1); Done"},
		{co("p", va(9), va(3), co("f", va(9), va(1))), "$goal/3, 3, 0: Get 1 X1; Get 2 X2; Get 3 X3; Call p(X1,X2,f(X1,X3)); Done"},
		{co(",", va(5), co(",", nu(1), va(2))), "$goal/2, 2, 0: Get 1 X1; Get 2 X2; Call X1; Call 1; Call X2; Done"},
		{co(";", co("->", va(4), at("!")), va(2)), "$goal/2, 2, 2: Get 1 X1; Get 2 X2; Save 0; Fork 9; Save 1; Call X1; Back 0; Cut; Jump 10; Call X2; Done"},
		{co(";", va(4), co("f", va(4))), "$goal/1, 1, 0: Get 1 X1; Fork 4; Call X1; Jump 5; Call f(X1); Done"},
		{co(`\+`, co(",", at("!"), va(4))), "$goal/1, 1, 2: Get 1 X1; Save 0; Fork 8; Save 1; Back 1; Call X1; Back 0; Fail; Done"},
		{co(":-", at("a"), va(8)), "$goal/1, 1, 0: Get 1 X1; Call :-(a,X1); Done"},
		{co("true", nu(1)), "$goal/0, 0, 0: Call true(1); Done"},
	} {
		for _, g := range []api.Term{c.goal, untidy(c.goal)} {
			if got := listing(goal(t, g)); got != c.want {
				t.Errorf("%s: %s, not %s", text(g), got, c.want)
			}
		}
	}
}

// spanned is a term with so many variables, each another one.
func spanned(count int) api.Term {
	var parts []api.Term
	for n := range count {
		parts = append(parts, va(int64(count-n)))
	}
	for len(parts) > 1 {
		var over []api.Term
		for group := range slices.Chunk(parts, 8) {
			over = append(over, co("w", group...))
		}
		parts = over
	}
	return parts[0]
}

// P18.1: as many variables as you like, each with a Get of itself.
func TestManyVars(t *testing.T) {
	for _, count := range []int{1, 2, 7, 8, 9, 10, 64, 65, 66, 512, 513, 1000, 1740} {
		g := spanned(count)
		got, want := goal(t, g), modelledGoal(g)
		if !sameCode(got, want) || got.Vars != count || got.Pred.Arity != count || len(got.Ins) != count+2 {
			t.Fatalf("%d variables: %.300s, not %.300s", count, listing(got), listing(want))
		}
		sound(t, got)
	}
	body := co(";", co(",", spanned(1000), at("!")), spanned(600))
	if got, want := goal(t, body), modelledGoal(body); !sameCode(got, want) || got.Vars != 1000 {
		t.Errorf("%.300s, not %.300s", listing(got), listing(want))
	}
}

// P18.1: goals as great and as deep as may be: what would be their clause is no right term any more.
func TestGreatGoals(t *testing.T) {
	for _, g := range []api.Term{
		sized(2000), sized(1999), tower(at("a"), "s", 99), tower(at("!"), `\+`, 99), tower(va(3), `\+`, 99), tower(nu(3), `\+`, 99),
		co(strings.Repeat("x", 64), times(8, va(1<<63-1))...), at(strings.Repeat("x", 64)),
	} {
		got, want := goal(t, g), modelledGoal(g)
		if !sameCode(got, want) {
			t.Errorf("%.300s: %.300s, not %.300s", text(g), listing(got), listing(want))
		}
		sound(t, got)
	}
}

// P18.1: what is no goal.
func TestNoGoal(t *testing.T) {
	fails := func(what string, g api.Term, want api.Errno) {
		t.Helper()
		if got, e := code.Goal(g); e != want || !sameCode(got, code.Code{}) || got.Ins != nil {
			t.Errorf("Goal of %s: %.300s, %d", what, listing(got), e)
		}
	}
	for _, n := range []int64{0, 1, -1, 1 << 62, -1 << 63} {
		fails("a number", nu(n), api.ErrClause)
		fails("an untidy number", untidy(nu(n)), api.ErrClause)
	}
	for what, w := range wrong() {
		fails(what, w, api.ErrTerm)
		for _, g := range []api.Term{co(",", at("a"), w), co(";", w, at("a")), co("->", at("fail"), w), co(`\+`, w), co("f", va(1), w)} {
			fails(what+" within a goal", g, api.ErrTerm)
		}
	}
}
