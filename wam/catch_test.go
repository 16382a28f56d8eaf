package wam_test

import (
	"testing"

	"pythia/api"
)

// P19.1: throw: a copy of what it is then; a variable isn't thrown.
func TestThrow(t *testing.T) {
	tells(t, ``, `throw(a)`, `ball a`)
	tells(t, ``, `throw(7)`, `ball 7`)
	tells(t, ``, `throw(f(Y, X, Y))`, `ball f(_1,_2,_1)`)
	tells(t, ``, `(X = g(Y), Z = 1, throw(f(Z, X, Y, W)))`, `ball f(1,g(_1),_1,_2)`)
	tells(t, ``, `throw(X)`, `ball `+inst)
	tells(t, ``, `(X = Y, throw(X))`, `ball `+inst)
	tells(t, ``, `(X = Y, Y = a, throw(X))`, `ball a`)
	tells(t, ``, `catch(throw(X), error(E, L), true)`, `yes catch(throw(_1),error(instantiation_error,[]),true); no`)
	tells(t, `p(1). p(2) :- throw(x). p(3).`, `p(X)`, `yes p(1); ball x`)
	tells(t, `p :- q. q :- r, fail. q. r :- throw(x). r.`, `p`, `ball x`)
}

// P19.1: catch does its goal as call does, as long as nothing is thrown.
func TestCatchCalls(t *testing.T) {
	tells(t, facts, `catch(p(X), E, true)`, `yes catch(p(1),_1,true); yes catch(p(2),_1,true); yes catch(p(3),_1,true); no`)
	tells(t, facts, `catch(p(4), E, true)`, `no`)
	tells(t, facts, `catch(fail, E, true)`, `no`)
	tells(t, facts, `catch((q(X), !), E, true)`, `yes catch(','(q(2),!),_1,true); no`)
	tells(t, facts, `catch(X, error(E, _), true)`, `yes catch(_1,error(instantiation_error,[]),true); no`)
	tells(t, facts, `catch(7, error(E, _), true)`, `yes catch(7,error(type_error(callable,7),[]),true); no`)
	tells(t, facts, `catch(X, a, true)`, `ball `+inst)
	tells(t, facts, `catch(7, a, true)`, `ball `+number)
	tells(t, facts, `catch(call(7), error(E, _), true)`, `yes catch(call(7),error(type_error(callable,7),[]),true); no`)
}

// P19.1: what it does with a ball that fits: in its own place, as by call.
func TestRecovery(t *testing.T) {
	tells(t, facts, `catch(throw(a), a, true)`, `yes catch(throw(a),a,true); no`)
	tells(t, facts, `catch(throw(a), X, true)`, `yes catch(throw(a),a,true); no`)
	tells(t, facts, `catch(throw(a), E, p(X))`, `yes catch(throw(a),a,p(1)); yes catch(throw(a),a,p(2)); yes catch(throw(a),a,p(3)); no`)
	tells(t, facts, `catch(throw(a), E, (p(X), !))`, `yes catch(throw(a),a,','(p(1),!)); no`)
	tells(t, facts, `catch(throw(a), E, fail)`, `no`)
	tells(t, facts, `catch(throw(a), E, X)`, `ball `+inst)
	tells(t, facts, `catch(throw(a), E, 7)`, `ball `+number)
	tells(t, facts, `catch(throw(z), E, E)`, `yes catch(throw(z),z,z); no`)
	tells(t, facts, `catch(throw(p(X)), E, E)`, `yes catch(throw(p(_1)),p(1),p(1)); yes catch(throw(p(_1)),p(2),p(2)); yes catch(throw(p(_1)),p(3),p(3)); no`)
	tells(t, facts, `catch(throw(7), E, E)`, `ball `+number)
	tells(t, facts, `(catch(throw(a), E, p(X)), q(X))`, `yes ','(catch(throw(a),a,p(2)),q(2)); yes ','(catch(throw(a),a,p(3)),q(3)); no`)
	tells(t, facts+`g(X) :- catch(h(X), E, p(X)), \+ X = 1. h(_) :- throw(e).`, `g(X)`, `yes g(2); yes g(3); no`)
	// A ball of its recovery is not its own any more.
	tells(t, facts, `catch(throw(a), E, throw(b))`, `ball b`)
	tells(t, facts, `catch(throw(a), E, throw(E))`, `ball a`)
	tells(t, facts, `catch(catch(throw(a), E, throw(b(E))), b(F), true)`, `yes catch(catch(throw(a),_1,throw(b(_1))),b(a),true); no`)
	tells(t, facts, `catch((catch(throw(a), E, p(X)), X > 1, throw(b(X))), b(Y), true)`, `yes catch(','(catch(throw(a),_1,p(_2)),','(>(_2,1),throw(b(_2)))),b(2),true); no`)
	// It is as it is now, when it comes to it.
	tells(t, facts, `(R = p(X), catch(throw(a), a, R))`, `yes ','(=(p(1),p(1)),catch(throw(a),a,p(1))); yes ','(=(p(2),p(2)),catch(throw(a),a,p(2))); yes ','(=(p(3),p(3)),catch(throw(a),a,p(3))); no`)
	tells(t, facts, `catch((R = p(1), throw(a)), a, R)`, `ball `+inst)
	tells(t, facts, `catch(throw(p(Y)), R, (R, Y = 5))`, `yes catch(throw(p(5)),p(1),','(p(1),=(5,5))); yes catch(throw(p(5)),p(2),','(p(2),=(5,5))); yes catch(throw(p(5)),p(3),','(p(3),=(5,5))); no`)
}

// P19.1: a ball that doesn't fit is thrown on.
func TestThrownOn(t *testing.T) {
	tells(t, ``, `catch(throw(a), b, true)`, `ball a`)
	tells(t, ``, `catch(throw(f(X)), f(a, b), true)`, `ball f(_1)`)
	tells(t, ``, `catch(throw(f(X, X)), f(a, b), true)`, `ball f(_1,_1)`)
	tells(t, ``, `(E = b, catch(throw(a), E, true))`, `ball a`)
	tells(t, ``, `catch(catch(throw(a), b, true), a, true)`, `yes catch(catch(throw(a),b,true),a,true); no`)
	tells(t, ``, `catch(catch(catch(throw(a), b, true), c, true), d, true)`, `ball a`)
	tells(t, ``, `catch(catch(catch(throw(a(1)), b, true), a(2), X = in), a(N), X = out)`, `yes catch(catch(catch(throw(a(1)),b,true),a(2),=(out,in)),a(1),=(out,out)); no`)
	tells(t, ``, `catch(catch(throw(f(X, Y, X)), f(A, A, 3), fail), E, true)`, `no`)
	tells(t, ``, `catch(catch(throw(f(X, 2, X)), f(A, A, 3), fail), E, true)`, `yes catch(catch(throw(f(_1,2,_1)),f(_2,_2,3),fail),f(_3,2,_3),true); no`)
	// What a ball that doesn't fit would have bound, isn't.
	tells(t, ``, `catch(catch(throw(f(1, 2)), f(A, A), true), f(B, C), true)`, `yes catch(catch(throw(f(1,2)),f(_1,_1),true),f(1,2),true); no`)
	tells(t, ``, `catch(catch(throw(f(1, 2)), f(A, A), true), f(A, B), true)`, `yes catch(catch(throw(f(1,2)),f(1,1),true),f(1,2),true); no`)
}

// P19.1: the innermost catch that is under way has a ball first; one that is behind has none.
func TestWhoCatches(t *testing.T) {
	tells(t, ``, `catch(catch(throw(a), E, X = in), F, X = out)`, `yes catch(catch(throw(a),a,=(in,in)),_1,=(in,out)); no`)
	tells(t, ``, `catch((catch(true, E, X = in), throw(a)), F, X = out)`, `yes catch(','(catch(true,_1,=(out,in)),throw(a)),a,=(out,out)); no`)
	tells(t, ``, `(catch(true, E, true), throw(a))`, `ball a`)
	tells(t, ``, `(catch(throw(b), b, true), throw(a))`, `ball a`)
	tells(t, facts, `(catch(p(X), E, true), throw(a(X)))`, `ball a(1)`)
	tells(t, facts, `(catch(p(X), E, true), X > 1, throw(a(X)))`, `ball a(2)`)
	tells(t, facts, `catch((catch(p(X), E, true), X > 1, throw(a(X))), a(Y), true)`, `yes catch(','(catch(p(_1),_2,true),','(>(_1,1),throw(a(_1)))),a(2),true); no`)
	// One that is behind is under way again, when failure goes back into its goal.
	const again = facts + `h(1). h(2) :- throw(b). h(3). `
	tells(t, again+`g(X) :- catch(h(X), b, X = c).`, `g(X)`, `yes g(1); yes g(c); no`)
	tells(t, again+`g(X) :- catch(h(Y), b, Y = c), X = d(Y).`, `g(X)`, `yes g(d(1)); yes g(d(c)); no`)
	tells(t, again+`g(X) :- catch(h(X), b, X = c), X \== 1.`, `g(X)`, `yes g(c); no`)
	tells(t, again+`g(X) :- catch(h(X), b, X = c), X \== 1, throw(b).`, `g(X)`, `ball b`)
	tells(t, again+`g(X) :- catch((catch(h(X), b, X = c), X \== 1, throw(b)), b, X = d).`, `g(X)`, `yes g(d); no`)
	tells(t, again+`g(X) :- catch(p(X), b, X = c), (X > 1 -> throw(b) ; fail).`, `g(X)`, `ball b`)
	tells(t, again+`g(X) :- catch((p(Y), catch(h(X), Y, X = c)), b, X = d).`, `g(X)`, `yes g(1); yes g(d); no`)
	tells(t, again+`g(X) :- catch(catch(h(X), c, X = c), b, X = d), !.`, `g(X)`, `yes g(1); no`)
	tells(t, again+`g(X) :- catch(h(X), b, X = c), !, throw(b).`, `g(X)`, `ball b`)
	// Who throws may be far within.
	tells(t, facts+`g(N) :- N > 0, M is N - 1, g(M). g(0) :- throw(deep).`, `catch(g(50), E, true)`, `yes catch(g(50),deep,true); no`)
	tells(t, facts+`g(N) :- N > 0, M is N - 1, catch(g(M), N, true). g(0) :- throw(30).`, `g(50)`, `yes g(50); no`)
	tells(t, facts+`g(N) :- N > 0, M is N - 1, K is N + 1, catch(g(M), N, throw(K)). g(0) :- throw(1).`, `g(50)`, `ball 51`)
	tells(t, facts, `catch((p(X), \+ q(X), throw(X)), E, true)`, `yes catch(','(p(_1),','(\+(q(_1)),throw(_1))),1,true); no`)
	tells(t, facts, `catch(\+ throw(a), E, true)`, `yes catch(\+(throw(a)),a,true); no`)
	tells(t, facts, `\+ catch(throw(a), E, fail)`, `yes \+(catch(throw(a),_1,fail)); no`)
	tells(t, facts, `catch((throw(a) -> true ; true), E, true)`, `yes catch(;(->(throw(a),true),true),a,true); no`)
	tells(t, facts, `(catch(throw(a), E, true) -> X = 1 ; X = 2)`, `yes ;(->(catch(throw(a),a,true),=(1,1)),=(1,2)); no`)
	tells(t, facts, `catch(call(call(throw, a)), E, true)`, `yes catch(call(call(throw,a)),a,true); no`)
	// Balls of layer 17, and of this one.
	tells(t, facts, `catch(X is Y, error(E, _), true)`, `yes catch(is(_1,_2),error(instantiation_error,[]),true); no`)
	tells(t, facts, `catch(X is a + 1, error(type_error(T, C), _), true)`, `yes catch(is(_1,+(a,1)),error(type_error(evaluable,/(a,0)),[]),true); no`)
	tells(t, facts, `catch(arg(f(A), g(B), C), error(type_error(T, f(D)), _), D = 1)`, `yes catch(arg(f(_1),g(_2),_3),error(type_error(integer,f(1)),[]),=(1,1)); no`)
	tells(t, facts, `catch(call((true, 7)), error(type_error(T, C), _), true)`, `yes catch(call(','(true,7)),error(type_error(callable,7),[]),true); no`)
}

// P19.1: what has happened since the catch was begun is undone: what was bound, and what was a choice.
func TestUndone(t *testing.T) {
	tells(t, ``, `catch((X = 1, throw(a)), a, true)`, `yes catch(','(=(_1,1),throw(a)),a,true); no`)
	tells(t, ``, `(X = f(Y), catch((Y = 1, Z = 2, throw(a(X, Z))), a(V, W), true))`, `yes ','(=(f(_1),f(_1)),catch(','(=(_1,1),','(=(_2,2),throw(a(f(_1),_2)))),a(f(1),2),true)); no`)
	tells(t, ``, `catch((X = Y, throw(a)), a, X = 1)`, `yes catch(','(=(1,_1),throw(a)),a,=(1,1)); no`)
	tells(t, facts, `catch((p(X), throw(a)), a, X = 9)`, `yes catch(','(p(9),throw(a)),a,=(9,9)); no`)
	tells(t, facts, `(p(X), catch((p(Y), p(Z), Z > 1, throw(Z)), 2, true))`, `yes ','(p(1),catch(','(p(_1),','(p(_2),','(>(_2,1),throw(_2)))),2,true)); yes ','(p(2),catch(','(p(_1),','(p(_2),','(>(_2,1),throw(_2)))),2,true)); yes ','(p(3),catch(','(p(_1),','(p(_2),','(>(_2,1),throw(_2)))),2,true)); no`)
	tells(t, facts+`g(X) :- (X = 1 ; catch((X = 2 ; throw(a)), a, X = 3) ; X = 4).`, `g(X)`, `yes g(1); yes g(2); yes g(3); yes g(4); no`)
	tells(t, facts+`g(X) :- p(X), catch((q(X), throw(a)), a, true).`, `g(X)`, `yes g(2); yes g(3); no`)
	// A choice within the goal is gone with the ball; those ahead of the catch stay.
	tells(t, facts+`g(X, Y) :- p(X), catch(h(Y), a, Y = c). h(1). h(_) :- throw(a). h(3).`, `g(X, Y)`, `yes g(1,1); yes g(1,c); yes g(2,1); yes g(2,c); yes g(3,1); yes g(3,c); no`)
	// A cut within the goal, then a ball.
	tells(t, facts+`g(X) :- p(X), catch(h, a, true). h :- p(Y), !, throw(a). h.`, `g(X)`, `yes g(1); yes g(2); yes g(3); no`)
	tells(t, facts+`g(X) :- p(X), catch((h, !, throw(a)), a, true). h :- p(Y). h.`, `g(X)`, `yes g(1); yes g(2); yes g(3); no`)
	tells(t, facts+`g(X) :- catch((p(X), catch(p(Y), _, true), !, throw(a)), a, p(X)), X > 1.`, `g(X)`, `yes g(2); yes g(3); no`)
	tells(t, facts+`g(X) :- p(X), (catch(p(Y), _, true) -> catch((p(Z), throw(a)), a, true) ; true).`, `g(X)`, `yes g(1); yes g(2); yes g(3); no`)
}

// P19.1: a ball is renamed: it shares no variable with what is there.
func TestRenamedBall(t *testing.T) {
	tells(t, ``, `catch(throw(f(X)), f(Y), Y = 1)`, `yes catch(throw(f(_1)),f(1),=(1,1)); no`)
	tells(t, ``, `catch(throw(f(X)), f(X), X = 1)`, `yes catch(throw(f(1)),f(1),=(1,1)); no`)
	tells(t, ``, `catch(throw(f(X, Y)), f(Y, Z), true)`, `yes catch(throw(f(_1,_2)),f(_2,_3),true); no`)
	tells(t, ``, `catch(throw(X), error(Y, X), true)`, `yes catch(throw([]),error(instantiation_error,[]),true); no`)
	tells(t, ``, `catch(throw(f(X)), X, true)`, `yes catch(throw(f(f(_1))),f(_1),true); no`)
	tells(t, `h :- g(1000), !, throw(f(X, Y, X)). g(0). g(N) :- N > 0, M is N - 1, g(M).`, `catch(h, f(A, B, C), B = 1)`, `yes catch(h,f(_1,1,_1),=(1,1)); no`)
	tells(t, ``, `(X = Y, catch(throw(f(X, Y, Z)), f(A, B, C), A = 1))`, `yes ','(=(_1,_1),catch(throw(f(_1,_1,_2)),f(1,1,_3),=(1,1))); no`)
}

// P19.1: catches, one behind the other, and within one another, as many as there is room for.
func TestManyCatches(t *testing.T) {
	tells(t, `g(0). g(N) :- N > 0, catch(true, _, true), M is N - 1, g(M).`, `(g(500), !)`, `yes ','(g(500),!); no`)
	tells(t, `g(0). g(N) :- N > 0, catch(throw(N), N, true), M is N - 1, g(M).`, `(g(500), !)`, `yes ','(g(500),!); no`)
	tells(t, `g(0) :- throw(x). g(N) :- N > 0, M is N - 1, catch(g(M), N, true).`, `g(500)`, `ball x`)
	tells(t, `g(0) :- throw(x). g(N) :- N > 0, M is N - 1, catch(g(M), y, true).`, `catch(g(500), x, true)`, `yes catch(g(500),x,true); no`)
	tells(t, `g(N) :- N > 0, catch(h(N), _, true), M is N - 1, g(M). g(0). h(_). h(_).`, `(g(300), !)`, `yes ','(g(300),!); no`)
	tells(t, `g :- n(X), catch(n(Y), _, true), X + Y > 15, !. n(1). n(2). n(3). n(4). n(5). n(6). n(7). n(8).`, `g`, `yes g; no`)
}

// P19.1: replies with a ball are thrown by who has asked.
func TestThrownReplies(t *testing.T) {
	tells(t, ``, `u`, `ask u; ball b(_1,_2,_1)`, `ball b(Y, X, Y)`)
	tells(t, ``, `catch(u(X), b(Y), Y = X)`, `ask u(_1); yes catch(u(1),b(1),=(1,1)); no`, `ball b(1)`)
	tells(t, ``, `catch(u(X), c, true)`, `ask u(_1); ball b(_1)`, `ball b(Z)`)
	tells(t, ``, `catch((u(X), v), b, true)`, `ask u(_1); ask v; yes catch(','(u(_1),v),b,true); no`, `u(1). u(2).`, `ball b`)
	tells(t, ``, `(catch(u(X), b, true), v)`, `ask u(_1); ask v; ball b`, `u(1). u(2).`, `ball b`)
	tells(t, ``, `(catch(u(X), b, X = 3), v)`, `ask u(_1); ask v; ask w; ask v; yes ','(catch(u(3),b,=(3,3)),v); no`, `u(1). u(2) :- w.`, `no`, `ball b`, `yes`)
	m := loaded(t, ``, `catch(u, X, true)`)
	m.Run(10)
	if e := m.Reply(api.Reply{Ok: true, Alts: terms(t, `u. u.`), Ball: nu(3)}); e != api.OK {
		t.Errorf("Reply = %d", e)
	}
	if got := told(t, m); got != `yes catch(u,3,true); no` {
		t.Error(got)
	}
}
