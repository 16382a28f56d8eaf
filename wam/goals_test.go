package wam_test

import (
	"strconv"
	"strings"
	"testing"

	"pythia/api"
	"pythia/term"
)

// facts are clauses that many tests use.
const facts = `p(1). p(2). p(3). q(2). q(3). r(a,b). r(b,c). r(c,d). z. `

// The balls of a goal that is a variable, and of one that is a number.
const (
	inst   = `error(instantiation_error,[])`
	number = `error(type_error(callable,7),[])`
)

// P19.1: the chapter's examples, and others of the whole.
func TestExamples(t *testing.T) {
	tells(t, `p(a). p(b). q(X1) :- p(X1), \+ X1 = a.`, `q(X1)`, `yes q(b); no`)
	tells(t, ``, `catch(throw(x), X1, true)`, `yes catch(throw(x),x,true); no`)
	tells(t, ``, `r(X1)`, `ask r(_1); yes r(1); yes r(2); no`, `r(1). r(2).`)
	tells(t, `append([], L, L). append([X|Xs], L, [X|Ys]) :- append(Xs, L, Ys).`, `append(X, Y, [1,2])`,
		`yes append([],[1,2],[1,2]); yes append([1],[2],[1,2]); yes append([1,2],[],[1,2]); no`)
}

// P19.1: a variable and a number are no goals: as the machine's goal, in a clause, by what a variable is, and in call.
func TestNoGoals(t *testing.T) {
	tells(t, ``, `X`, `ball `+inst)
	tells(t, ``, `7`, `ball `+number)
	tells(t, ``, `-3`, `ball error(type_error(callable,-3),[])`)
	tells(t, `g :- X.`, `g`, `ball `+inst)
	tells(t, `g :- X = 7, X.`, `g`, `ball `+number)
	tells(t, `g(X) :- X.`, `g(7)`, `ball `+number)
	tells(t, `g(X) :- X.`, `g(Y)`, `ball `+inst)
	tells(t, `g(X) :- Y = X, Z = Y, Z.`, `g(W)`, `ball `+inst)
	tells(t, `g :- (true, 7).`, `g`, `ball `+number)
	tells(t, `g :- (fail, 7).`, `g`, `no`)
	tells(t, `g :- (fail ; 7).`, `g`, `ball `+number)
	tells(t, `g :- \+ X.`, `g`, `ball `+inst)
	tells(t, `g :- (7 -> true ; true).`, `g`, `ball `+number)
	tells(t, ``, `call(X)`, `ball `+inst)
	tells(t, ``, `call(7)`, `ball `+number)
	tells(t, ``, `call(X, a)`, `ball `+inst)
	tells(t, ``, `call(7, a, b)`, `ball `+number)
	tells(t, ``, `call(X, a, b, c, d, e, f, g)`, `ball `+inst)
	tells(t, ``, `call((fail, 7))`, `no`)
	tells(t, ``, `call((true, 7))`, `ball `+number)
	tells(t, ``, `call((true, X))`, `ball `+inst)
	tells(t, ``, `call(call(call(7)))`, `ball `+number)
	tells(t, ``, `(X, true)`, `ball `+inst)
	tells(t, ``, `(true ; X)`, `yes ;(true,_1); ball `+inst)
}

// P19.1: a variable is the goal that it is now.
func TestVariableGoals(t *testing.T) {
	tells(t, facts+`g(X) :- G = p(X), G.`, `g(X)`, `yes g(1); yes g(2); yes g(3); no`)
	tells(t, facts+`g(X) :- G = H, H = q(Y), Y = X, G.`, `g(X)`, `yes g(2); yes g(3); no`)
	tells(t, facts+`g(G, X) :- G.`, `g(r(X, Y), X)`, `yes g(r(a,b),a); yes g(r(b,c),b); yes g(r(c,d),c); no`)
	tells(t, `g(G) :- G.`, `g(true)`, `yes g(true); no`)
	tells(t, `g(G) :- G.`, `g(fail)`, `no`)
	tells(t, `g(G) :- G.`, `g(u(X))`, `ask u(_1); yes g(u(_1)); no`, `yes`)
	tells(t, `g(G) :- G.`, `g(X = f(Y))`, `yes g(=(f(_1),f(_1))); no`)
	tells(t, `g(G) :- G.`, `g(throw(b(X, Y, X)))`, `ball b(_1,_2,_1)`)
	tells(t, `g(G) :- G.`, `g(catch(throw(a), X, true))`, `yes g(catch(throw(a),a,true)); no`)
	tells(t, `g(G) :- G.`, `g(call(=, X, 1))`, `yes g(call(=,1,1)); no`)
	// What is bound by a goal that is left again is not what the variable is then.
	tells(t, facts+`g(X, Y) :- (X = 1 ; X = 2 ; true), G = p(X), G, Y = X.`, `g(X, Y)`, `yes g(1,1); yes g(2,2); yes g(1,1); yes g(2,2); yes g(3,3); no`)
}

// P19.1: each control goal, as the machine's goal, in a variable, and in call, is done as a call of it.
func TestControls(t *testing.T) {
	for _, c := range []struct{ goal, want string }{
		{`(p(X), q(X))`, `2 3`},
		{`(p(X), q(Y), X = Y)`, `2 3`},
		{`(p(X) ; q(X))`, `1 2 3 2 3`},
		{`(fail ; q(X))`, `2 3`},
		{`(p(X) ; fail)`, `1 2 3`},
		{`(p(X) -> true)`, `1`},
		{`(q(X) -> p(Y))`, `2 2 2`},
		{`(fail -> X = 1)`, ``},
		{`(q(X) -> p(X) ; X = 9)`, `2`},
		{`(p(Y), Y > 1 -> X = Y ; X = 9)`, `2`},
		{`(p(Y), Y > 5 -> X = Y ; p(X))`, `1 2 3`},
		{`(true -> p(X) ; X = 9)`, `1 2 3`},
		{`((fail -> true) ; p(X))`, `1 2 3`},
		{`((true -> fail) ; p(X))`, ``},
		{`((true -> p(X)) ; p(X))`, `1 2 3`},
		{`(p(X), (q(X) -> true ; fail))`, `2 3`},
		{`(\+ p(5), p(X))`, `1 2 3`},
		{`(\+ p(X))`, ``},
		{`(\+ p(5), X = 1)`, `1`},
		{`(p(X), \+ q(X))`, `1`},
		{`(p(X), \+ \+ q(X))`, `2 3`},
		{`(\+ fail, X = 1)`, `1`},
		{`(\+ \+ X = 1, X = 2)`, `2`},
		{`(!, X = 1)`, `1`},
		{`(p(X), !)`, `1`},
		{`(!, p(X))`, `1 2 3`},
		{`(p(X), ! ; X = 9)`, `1`},
		{`(! ; X = 9)`, `_`},
		{`(fail, ! ; X = 9)`, `9`},
		{`(p(Y), (Y = 2, !, X = Y ; fail))`, `2`},
		{`(true, X = 1)`, `1`},
		{`((p(Y), p(Z)), X is Y * 10 + Z)`, `11 12 13 21 22 23 31 32 33`},
	} {
		for _, program := range []string{`g(X) :- G = ` + c.goal + `, G.`, `g(X) :- call(` + c.goal + `).`, `g(X) :- catch(` + c.goal + `, _, true).`, `g(X) :- h(` + c.goal + `). h(G) :- call(call(G)).`, `g(X) :- ` + c.goal + `.`} {
			var all []string
			for _, x := range strings.Fields(c.want) {
				all = append(all, `yes g(`+strings.ReplaceAll(x, `_`, `_1`)+`)`)
			}
			tells(t, facts+program, `g(X)`, strings.Join(append(all, `no`), `; `))
		}
		g := goalOf(t, c.goal)
		top := told(t, machine(t, clauses(t, facts), g, roomyLimits()))
		if got := strings.Count(top, "yes "); got != len(strings.Fields(c.want)) || !strings.HasSuffix(top, "no") {
			t.Errorf("%s tells %s", c.goal, top)
		}
	}
}

// P19.1: call of one argument, of more, and beyond MaxArity.
func TestCall(t *testing.T) {
	tells(t, facts, `call(p(X))`, `yes call(p(1)); yes call(p(2)); yes call(p(3)); no`)
	tells(t, facts, `call(z)`, `yes call(z); no`)
	tells(t, facts, `call(p, X)`, `yes call(p,1); yes call(p,2); yes call(p,3); no`)
	tells(t, facts, `call(r, X, Y)`, `yes call(r,a,b); yes call(r,b,c); yes call(r,c,d); no`)
	tells(t, facts, `call(r(b), Y)`, `yes call(r(b),c); no`)
	tells(t, facts, `call(call(call, r), X, d)`, `yes call(call(call,r),c,d); no`)
	tells(t, facts, `call(call, p(2))`, `yes call(call,p(2)); no`)
	tells(t, ``, `call(=, X, f(Y))`, `yes call(=,f(_1),f(_1)); no`)
	tells(t, ``, `call(call(=, X), 3)`, `yes call(call(=,3),3); no`)
	tells(t, facts, `call(',', p(X), q(X))`, `yes call(',',p(2),q(2)); yes call(',',p(3),q(3)); no`)
	tells(t, facts, `call(',', !, fail)`, `no`)
	tells(t, facts, `call(;, fail, q(X))`, `yes call(;,fail,q(2)); yes call(;,fail,q(3)); no`)
	tells(t, facts, `call(->(p(X)), q(X))`, `no`)
	tells(t, facts, `call(->(p(X)), true)`, `yes call(->(p(1)),true); no`)
	tells(t, facts, `call(\+, p(4))`, `yes call(\+,p(4)); no`)
	tells(t, ``, `call(catch, throw(a), X, X = a)`, `yes call(catch,throw(a),a,=(a,a)); no`)
	tells(t, ``, `call(catch(throw(a)), b, true)`, `ball a`)
	tells(t, ``, `call(throw, f(X))`, `ball f(_1)`)
	tells(t, ``, `call(u, X, a)`, `ask u(_1,a); yes call(u,_1,a); no`, `yes`)
	tells(t, ``, `call(!, a)`, `ask !(a); no`, `no`)
	tells(t, ``, `call(true, a)`, `ask true(a); no`, `no`)
	tells(t, ``, `call(u, 1, 2, 3, 4, 5, 6, 7)`, `ask u(1,2,3,4,5,6,7); no`, `no`)
	tells(t, ``, `call(u(0), 1, 2, 3, 4, 5, 6, 7)`, `ask u(0,1,2,3,4,5,6,7); no`, `no`)
	const arity = `ball error(representation_error(max_arity),[])`
	tells(t, ``, `call(u(0, 1), 1, 2, 3, 4, 5, 6, 7)`, arity)
	tells(t, ``, `call(u(1, 2, 3, 4, 5, 6, 7, 8), 9)`, arity)
	tells(t, ``, `call(u(1, 2, 3, 4, 5, 6, 7, 8))`, `ask u(1,2,3,4,5,6,7,8); no`, `no`)
	tells(t, ``, `call(call(u(1, 2, 3, 4, 5), 6, 7), 8, 9)`, arity)
	tells(t, ``, `catch(call(u(1, 2, 3, 4, 5, 6, 7, 8), 9), error(E, C), true)`, `yes catch(call(u(1,2,3,4,5,6,7,8),9),error(representation_error(max_arity),[]),true); no`)
	// A predicate of that name without arguments is the program's, or somebody else's.
	tells(t, `call.`, `call`, `yes call; no`)
	tells(t, ``, `call`, `ask call; no`, `no`)
	// What call is given is as it is then.
	tells(t, facts+`g(X) :- G = H, H = p(X), call(G).`, `g(X)`, `yes g(1); yes g(2); yes g(3); no`)
	tells(t, facts+`g(X) :- call((Y = 2, p(X), X = Y)).`, `g(X)`, `yes g(2); no`)
	tells(t, facts+`g(X) :- call((G = !, p(X), G)).`, `g(X)`, `yes g(1); yes g(2); yes g(3); no`)
	tells(t, facts+`g(X) :- G = !, call((p(X), G)).`, `g(X)`, `yes g(1); no`)
	tells(t, facts+`m(_, []). m(P, [X|Xs]) :- call(P, X), m(P, Xs).`, `m(q, [X,Y])`, `yes m(q,[2,2]); yes m(q,[2,3]); yes m(q,[3,2]); yes m(q,[3,3]); no`)
}

// P19.1: a cut takes its own choices away, and those of clauses that are left.
func TestCuts(t *testing.T) {
	for _, c := range []struct{ program, want string }{
		// in a clause with others behind it
		{`g(X) :- p(X), !. g(9).`, `1`},
		{`g(X) :- !, p(X). g(9).`, `1 2 3`},
		{`g(X) :- p(X), X > 1, !. g(9).`, `2`},
		{`g(X) :- p(X), X > 5, !. g(9).`, `9`},
		{`g(X) :- fail, !. g(9).`, `9`},
		{`g(X) :- !, fail. g(9).`, ``},
		{`g(8). g(X) :- p(X), !. g(9).`, `8 1`},
		{`g(8). g(7) :- !. g(9).`, `8 7`},
		{`g(X) :- p(X), !, q(Y). g(9).`, `1 1`},
		{`g(X) :- p(Y), p(Z), !, X is Y + Z. g(9).`, `2`},
		{`g(X) :- !. g(9).`, `_1`},
		{`g(X) :- p(X), !, p(Y), !, q(Z), !.`, `1`},
		// ahead of it choices of the one that asked stay
		{`g(X) :- p(X), h. h :- z, !. h.`, `1 2 3`},
		{`g(X) :- h(X), p(Y). h(X) :- q(X), !.`, `2 2 2`},
		{`g(X) :- p(X), h(X). h(X) :- q(X), !, fail. h(_).`, `1`},
		// in a side
		{`g(X) :- (p(X), ! ; X = 8). g(9).`, `1`},
		{`g(X) :- (fail ; p(X), !). g(9).`, `1`},
		{`g(X) :- (p(X) ; X = 8), !. g(9).`, `1`},
		{`g(X) :- (X = 8 ; !, X = 7 ; X = 6). g(9).`, `8 7`},
		{`g(X) :- (true -> p(X), ! ; X = 8). g(9).`, `1`},
		{`g(X) :- (fail -> X = 8 ; p(X), !). g(9).`, `1`},
		{`g(X) :- (true -> !, fail). g(9).`, ``},
		{`g(X) :- (fail -> !). g(9).`, `9`},
		// within a condition: its own choices alone
		{`g(X) :- (p(X), ! -> true ; X = 8). g(9).`, `1 9`},
		{`g(X) :- (p(X), !, X > 1 -> true ; X = 8). g(9).`, `8 9`},
		{`g(X) :- (!, fail -> X = 7 ; X = 8). g(9).`, `8 9`},
		{`g(X) :- p(X), (! -> true ; true). g(9).`, `1 2 3 9`},
		{`g(X) :- p(X), \+ (!, fail). g(9).`, `1 2 3 9`},
		{`g(X) :- p(X), \+ (q(X), !). g(9).`, `1 9`},
		{`g(X) :- \+ \+ !, p(X). g(9).`, `1 2 3 9`},
		{`g(X) :- (((p(X), ! ; X = 7), X > 0 ; X = 6) -> true ; X = 8). g(9).`, `1 9`},
		{`g(X) :- ((p(Y), ! -> Y > 1 ; true) -> X = 7 ; p(X), !). g(9).`, `1`},
		// within call
		{`g(X) :- call((p(X), !)). g(9).`, `1 9`},
		{`g(X) :- call(!), p(X). g(9).`, `1 2 3 9`},
		{`g(X) :- p(X), call(!). g(9).`, `1 2 3 9`},
		{`g(X) :- call((!, fail ; true)). g(9).`, `9`},
		{`g(X) :- call((p(X) ; X = 7)), !. g(9).`, `1`},
		{`g(X) :- call((p(X), call(!))). g(9).`, `1 2 3 9`},
		{`g(X) :- call((p(X), (true -> ! ; true))). g(9).`, `1 9`},
		{`g(X) :- p(X), C = !, C. g(9).`, `1 2 3 9`},
		{`g(X) :- C = (p(X), !), C. g(9).`, `1 9`},
		{`g(X) :- call(',', p(X), !). g(9).`, `1 9`},
		{`g(X) :- h((p(X), !)). g(9). h(G) :- G. h(_).`, `1 _1 9`},
		// within catch
		{`g(X) :- catch((p(X), !), _, true). g(9).`, `1 9`},
		{`g(X) :- catch(!, _, true), p(X). g(9).`, `1 2 3 9`},
		{`g(X) :- catch(p(X), _, true), !. g(9).`, `1`},
		{`g(X) :- catch(throw(a), a, (p(X), !)). g(9).`, `1 9`},
		{`g(X) :- p(X), catch(throw(a), a, !). g(9).`, `1 2 3 9`},
		// a condition takes its choices away, no others
		{`g(X) :- p(Y), (p(Z) -> X is Y * 10 + Z ; true). g(9).`, `11 21 31 9`},
		{`g(X) :- p(Y), (p(Z), Z > 1 -> p(W), X is Y * 100 + Z * 10 + W ; true). g(9).`, `121 122 123 221 222 223 321 322 323 9`},
		{`g(X) :- p(X), \+ (p(Y), Y > X). g(9).`, `3 9`},
		{`g(X) :- (p(X) ; q(X)), (p(Y), Y > X -> true ; fail). g(9).`, `1 2 2 9`},
	} {
		var all []string
		for _, x := range strings.Fields(c.want) {
			all = append(all, `yes g(`+x+`)`)
		}
		tells(t, facts+c.program, `g(X)`, strings.Join(append(all, `no`), `; `))
	}
}

// P19.1: goals of layer 17 are done as it says.
func TestPureGoals(t *testing.T) {
	for _, c := range []struct{ goal, want string }{
		{`true`, `yes true; no`},
		{`fail`, `no`},
		{`false`, `no`},
		{`X = Y`, `yes =(_1,_1); no`},
		{`X = f(X)`, `no`},
		{`f(X, b) = f(a, Y)`, `yes =(f(a,b),f(a,b)); no`},
		{`X \= a`, `no`},
		{`a \= b`, `yes \=(a,b); no`},
		{`X == X`, `yes ==(_1,_1); no`},
		{`X == Y`, `no`},
		{`X \== Y`, `yes \==(_1,_2); no`},
		{`(X = Y, X == Y)`, `yes ','(=(_1,_1),==(_1,_1)); no`},
		{`a @< f(a)`, `yes @<(a,f(a)); no`},
		{`compare(O, 3, a)`, `yes compare(<,3,a); no`},
		{`compare(>, 3, a)`, `no`},
		{`(var(X), X = 1, nonvar(X), integer(X))`, `yes ','(var(1),','(=(1,1),','(nonvar(1),integer(1)))); no`},
		{`atom(f(a))`, `no`},
		{`is_list([X,Y])`, `yes is_list([_1,_2]); no`},
		{`X is 1 + 2 * 3`, `yes is(7,+(1,*(2,3))); no`},
		{`(Y = 4, X is Y * Y)`, `yes ','(=(4,4),is(16,*(4,4))); no`},
		{`3 is 1 + 1`, `no`},
		{`X is Y`, `ball ` + inst},
		{`X is 1 + a`, `ball error(type_error(evaluable,/(a,0)),[])`},
		{`1 =:= 2 - 1`, `yes =:=(1,-(2,1)); no`},
		{`1 // 0 < 2`, `ball error(evaluation_error(zero_divisor),[])`},
		{`functor(f(a, b), N, A)`, `yes functor(f(a,b),f,2); no`},
		{`functor(T, f, 2)`, `yes functor(f(_1,_2),f,2); no`},
		{`functor(f(a), g, A)`, `no`},
		{`(functor(T, f, 2), functor(S, g, 1), T = f(S, S))`, `yes ','(functor(f(g(_1),g(_1)),f,2),','(functor(g(_1),g,1),=(f(g(_1),g(_1)),f(g(_1),g(_1))))); no`},
		{`functor(T, X, 2)`, `ball ` + inst},
		{`functor(T, f, 9)`, `ball error(representation_error(max_arity),[])`},
		{`functor(f(X, X), f, X)`, `yes functor(f(2,2),f,2); no`},
		{`arg(2, f(X, g(X, Y)), A)`, `yes arg(2,f(_1,g(_1,_2)),g(_1,_2)); no`},
		{`arg(1, f(X), X)`, `yes arg(1,f(_1),_1); no`},
		{`arg(1, f(X), g(X))`, `no`},
		{`arg(x, f(a), A)`, `ball error(type_error(integer,x),[])`},
		{`f(X, a) =.. L`, `yes =..(f(_1,a),[f,_1,a]); no`},
		{`T =.. [f,X,X]`, `yes =..(f(_1,_1),[f,_1,_1]); no`},
		{`T =.. [f|X]`, `ball ` + inst},
		{`copy_term(f(X, Y, X), T)`, `yes copy_term(f(_1,_2,_1),f(_3,_4,_3)); no`},
		{`copy_term(X, Y)`, `yes copy_term(_1,_2); no`},
		{`copy_term(X, X)`, `yes copy_term(_1,_1); no`},
		{`copy_term(f(X), f(a))`, `yes copy_term(f(_1),f(a)); no`},
		{`(copy_term(f(X), Y), copy_term(Y, Z), Y = f(1))`, `yes ','(copy_term(f(_1),f(1)),','(copy_term(f(1),f(_2)),=(f(1),f(1)))); no`},
		{`(X = f(Y), copy_term(X, Z), Z = f(1))`, `yes ','(=(f(_1),f(_1)),','(copy_term(f(_1),f(1)),=(f(1),f(1)))); no`},
	} {
		tells(t, facts, c.goal, c.want)
		tells(t, facts, `call(`+c.goal+`)`, called(c.want))
		tells(t, facts+`g(X) :- X.`, `g(`+c.goal+`)`, strings.ReplaceAll(called(c.want), `yes call`, `yes g`))
	}
}

// called is what is told of a call of a goal, by what is told of the goal.
func called(want string) string {
	var all []string
	for _, e := range strings.Split(want, `; `) {
		if answer, ok := strings.CutPrefix(e, `yes `); ok {
			e = `yes call(` + answer + `)`
		}
		all = append(all, e)
	}
	return strings.Join(all, `; `)
}

// P19.1: a goal with more variables than a term may have symbols, taken with their copies.
func TestManyVariables(t *testing.T) {
	big, c := scattered(1900), va(1900)
	program := append(clauses(t, `g(N, A, Z) :- big(X), copy_term(X, Y), functor(Y, N, A), arg(8, Y, Z).`), fact(co("big", big)))
	m := machine(t, program, co("g", va(1), va(2), va(3)), roomyLimits())
	if e := m.Run(100); e.Kind != api.EvAnswer || !term.Variant(e.Term, co("g", at("w"), nu(8), big.Args[7])) {
		t.Errorf("%.100s", eventText(e))
	}
	m = machine(t, nil, co(",", co("copy_term", big, c), co("call", co("==", va(1), va(1)))), roomyLimits())
	if e := m.Run(100000); e.Kind != api.EvLimit || termText(e.Term) != `resource_error(term)` { // the answer would have too many symbols
		t.Errorf("%.100s", eventText(e))
	}
	m = machine(t, nil, co("call", co("u", big)), roomyLimits())
	if e := m.Run(100000); e.Kind != api.EvAsk || !same(e.Term, co("u", big)) {
		t.Errorf("%.100s", eventText(e))
	}
}

// P19.1: the program's clauses are tried in order, each renamed.
func TestProgram(t *testing.T) {
	tells(t, `p(3). p(1). p(2). p(1).`, `p(X)`, `yes p(3); yes p(1); yes p(2); yes p(1); no`)
	tells(t, `p(3). p(1). p(2). p(1).`, `p(1)`, `yes p(1); yes p(1); no`)
	tells(t, `p(3).`, `p(4)`, `no`)
	tells(t, `p(X, Y).`, `p(A, B)`, `yes p(_1,_2); no`)
	tells(t, `p(X, X).`, `p(A, B)`, `yes p(_1,_1); no`)
	tells(t, `p(X, X).`, `p(f(A), f(b))`, `yes p(f(b),f(b)); no`)
	tells(t, `p(X, f(X)).`, `p(A, A)`, `no`)
	tells(t, `p(X, Y, Z) :- q(Z, Y, X). q(1, 2, A).`, `p(A, B, C)`, `yes p(_1,2,1); no`)
	tells(t, `p. p(1). p(1, 2).`, `p`, `yes p; no`)
	tells(t, `p. p(1). p(1, 2).`, `p(X, Y)`, `yes p(1,2); no`)
	tells(t, `p. p(1). p(1, 2).`, `p(X, Y, Z)`, `ask p(_1,_2,_3); no`, `no`)
	tells(t, `p(1) :- fail. p(2). p(3) :- q. q :- fail.`, `p(X)`, `yes p(2); no`)
	// A clause's variables are others each time.
	tells(t, `p(f(X)).`, `(p(A), p(B))`, `yes ','(p(f(_1)),p(f(_2))); no`)
	tells(t, `p(X, Z) :- q(X, Y), q(Y, Z). q(A, g(A)).`, `p(B, C)`, `yes p(_1,g(g(_1))); no`)
	tells(t, `n(z). n(s(X)) :- n(X).`, `(n(X), X = s(s(z)), !)`, `yes ','(n(s(s(z))),','(=(s(s(z)),s(s(z))),!)); no`)
	// Clauses that differ in each part of an argument.
	tells(t, `p(a, 1). p(b, 1). p(1, 1). p(f(a), 1). p(f(b), 1). p(f(a, b), 1). p(g(a), 1). p(X, 2). p(f(X), 3). p([], 4). p([X|_], X).`, `p(f(a), X)`, `yes p(f(a),1); yes p(f(a),2); yes p(f(a),3); no`)
	tells(t, `p(a, 1). p(b, 1). p(1, 1). p(f(a), 1). p(f(b), 1). p(f(a, b), 1). p(g(a), 1). p(X, 2). p(f(X), 3). p([], 4). p([X|_], X).`, `p(1, X)`, `yes p(1,1); yes p(1,2); no`)
	tells(t, `p(a, 1). p(b, 1). p(1, 1). p(f(a), 1). p([], 4). p([X|_], X). p('1', 5).`, `p([Y], X)`, `yes p([_1],_1); no`)
	tells(t, `p(f(X, a), X). p(f(b, X), X).`, `p(f(Y, Y), Z)`, `yes p(f(a,a),a); yes p(f(b,b),b); no`)
	// Recursion of other kinds.
	tells(t, `rev([], []). rev([X|Xs], R) :- rev(Xs, S), app(S, [X], R). app([], L, L). app([X|Xs], L, [X|Ys]) :- app(Xs, L, Ys).`, `rev([1,2,3,4], R)`, `yes rev([1,2,3,4],[4,3,2,1]); no`)
	tells(t, `perm([], []). perm(L, [X|P]) :- sel(X, L, R), perm(R, P). sel(X, [X|R], R). sel(X, [Y|L], [Y|R]) :- sel(X, L, R).`, `perm([a,b,c], P)`, `yes perm([a,b,c],[a,b,c]); yes perm([a,b,c],[a,c,b]); yes perm([a,b,c],[b,a,c]); yes perm([a,b,c],[b,c,a]); yes perm([a,b,c],[c,a,b]); yes perm([a,b,c],[c,b,a]); no`)
	tells(t, `even(0). even(N) :- N > 0, M is N - 1, odd(M). odd(N) :- N > 0, M is N - 1, even(M).`, `even(100)`, `yes even(100); no`)
	tells(t, `fib(0, 0) :- !. fib(1, 1) :- !. fib(N, F) :- A is N - 1, B is N - 2, fib(A, X), fib(B, Y), F is X + Y.`, `fib(12, F)`, `yes fib(12,144); no`)
	tells(t, queens, `queens([1,2,3,4,5,6], Q)`, `yes queens([1,2,3,4,5,6],[5,3,1,6,4,2]); yes queens([1,2,3,4,5,6],[4,1,5,2,6,3]); yes queens([1,2,3,4,5,6],[3,6,2,5,1,4]); yes queens([1,2,3,4,5,6],[2,4,6,1,3,5]); no`)
}

// queens puts queens on a board, from the last row on.
const queens = `queens(L, Q) :- place(L, [], Q).
place([], Q, Q).
place(L, S, Q) :- sel(X, L, R), safe(X, 1, S), place(R, [X|S], Q).
sel(X, [X|R], R). sel(X, [Y|L], [Y|R]) :- sel(X, L, R).
safe(_, _, []). safe(X, D, [Y|S]) :- X =\= Y + D, X =\= Y - D, E is D + 1, safe(X, E, S).
`

// P19.1: a clause of as many variables, conditions and arguments as there may be.
func TestGreatClauses(t *testing.T) {
	var parts []string
	for i := range 90 {
		n := strconv.Itoa(i)
		parts = append(parts, `(X`+n+` = `+n+`, \+ X`+n+` = a -> true ; fail)`)
	}
	tells(t, `g(X3, X89, X0) :- `+strings.Join(parts, `, `)+`.`, `g(A, B, C)`, `yes g(3,89,0); no`)
	wide := co("p", scattered(1996))
	for _, c := range []api.Clause{fact(wide), cl(co("p", va(5000)), co("=", va(5000), scattered(1990)))} {
		m := machine(t, []api.Clause{c}, co("p", va(1)), roomyLimits())
		if e := m.Run(100); e.Kind != api.EvAnswer {
			t.Errorf("%.300s", eventText(e))
		}
	}
	m := machine(t, []api.Clause{fact(wide)}, co("p", va(1)), api.Limits{Heap: 2200, Trail: 10})
	if e := m.Run(10); e.Kind != api.EvAnswer || !same(e.Term, wide) {
		t.Errorf("%.300s", eventText(e))
	}
}
