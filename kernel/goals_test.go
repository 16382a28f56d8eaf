package kernel_test

import (
	"math"
	"strconv"
	"strings"
	"testing"

	"pythia/api"
)

// The balls, but for their ends.
const (
	inst = `ball error(instantiation_error,[])`
)

func typeBall(wanted, u string) string { return `ball error(type_error(` + wanted + `,` + u + `),[])` }

func noneBall(kind, u string) string { return `ball error(existence_error(` + kind + `,` + u + `),[])` }

func permBall(action, kind, u string) string {
	return `ball error(permission_error(` + action + `,` + kind + `,` + u + `),[])`
}

func resBall(what string) string { return `ball error(resource_error(` + what + `),[])` }

// P20.2: the chapter's examples.
func TestExamples(t *testing.T) {
	k := roomyKernel(t, 2)
	does(t, k, 1, `assertz(p(a))`, `yes`, `'$add'(:-(p(a),true),1)`)
	does(t, k, 2, `p(X)`, `:-(p(a),true)`, `'$read'(/(p,1),[1])`)
	does(t, k, 1, `retract(p(X))`, `retract(p(a))`, `'$read'(/(p,1),[1])`, `'$cut'(/(p,1),1)`)
	does(t, k, 2, `p(X)`, `no`, `'$read'(/(p,1),[]) = no`)
	settles(t, k, 1, `q`, noneBall(`procedure`, `/(q,0)`))
}

// P20.2: a goal that is too deep or too great, ahead of all else that might be said of it.
func TestTooGreat(t *testing.T) {
	k := roomyKernel(t, 1)
	for _, u := range []api.Term{tower(at("a"), "s", 96), tower(va(7), "s", 97), sized(1990, at("a")), sized(1994, va(1))} {
		for _, g := range []api.Term{
			co("out", u),
			co("nobody", u),
			co("thread_send_message", va(1), u),
			co("thread_get_message", nu(9), u),
			co("thread_join", u, va(1)),
			co("message_queue_create", va(1), u),
			co("mutex_lock", u),
			co("assertz", co(":-", va(1), u)),
			co("retract", co(":-", nu(1), u)),
			co("clause", co("is", va(1), va(2)), u),
			co("thread_create", u, va(1)),
			co("asserta", u),
		} {
			settlesGoal(t, k, 1, g, resBall(`term`))
		}
	}
	if k.Lines(1) != nil || k.State(2) != 0 || k.Faults() != 0 {
		t.Error("something was done")
	}
}

// P20.2: depths and sizes just below, at and above the bounds.
func TestBoundsOfGoals(t *testing.T) {
	k := roomyKernel(t, 1)
	for depth := 90; depth <= 102; depth++ {
		g := tower(at("a"), "out", depth-1)
		switch {
		case depth <= 96:
			settlesGoal(t, k, 1, g, `yes`)
		case depth <= 100:
			settlesGoal(t, k, 1, g, resBall(`term`))
		default:
			if k.Begin(1, g) != nil {
				t.Fatalf("a goal of depth %d", depth)
			}
		}
	}
	for size := 1985; size <= 2003; size++ {
		g := co("out", sized(size-1, va(9)))
		switch {
		case size <= 1990:
			settlesGoal(t, k, 1, g, `yes`)
		case size <= 2000:
			settlesGoal(t, k, 1, g, resBall(`term`))
		default:
			if k.Begin(1, g) != nil {
				t.Fatalf("a goal of %d symbols", size)
			}
		}
	}
	if n := len(k.Lines(1)); n != 7+6 {
		t.Errorf("%d lines", n)
	}
}

// P20.2: what is given of goals as great as may be is right.
func TestGreatestGoals(t *testing.T) {
	for _, u := range []api.Term{tower(at("a"), "s", 92), sized(1986, at("a"))} {
		k := roomyKernel(t, 2)
		h, w := co("p", u), text(u)
		doesGoal(t, k, 1, co("assertz", h), `yes`, `'$add'(:-(p(`+w+`),true),1)`)
		doesGoal(t, k, 1, co("p", va(1)), `:-(p(`+w+`),true)`, `'$read'(/(p,1),[1])`)
		doesGoal(t, k, 1, co("clause", h, va(1)), `clause(p(`+w+`),true)`, `'$read'(/(p,1),[1])`)
		doesGoal(t, k, 1, co("clause", h, nu(1)), `no`, `'$read'(/(p,1),[1])`)
		doesGoal(t, k, 1, co("retract", h), `retract(p(`+w+`))`, `'$read'(/(p,1),[1])`, `'$cut'(/(p,1),1)`)
		settles(t, k, 1, `message_queue_create(Q)`, `message_queue_create(1)`)
		settlesGoal(t, k, 1, co("thread_send_message", nu(1), h), `yes`)
		settlesGoal(t, k, 1, co("thread_get_message", nu(1), va(1)), `thread_get_message(1,p(`+w+`))`)
		settlesGoal(t, k, 1, co("thread_create", h, va(1)), `thread_create(_1,3)`)
		ends(t, k, 3, co("p", co("q", u)))
		settlesGoal(t, k, 1, co("thread_join", nu(3), va(1)), `thread_join(3,p(q(`+w+`)))`)
		settlesGoal(t, k, 1, co("assertz", co(":-", nu(1), u)), typeBall(`callable`, `:-(1,`+w+`)`))
		settlesGoal(t, k, 1, co("thread_join", co("p", u), nu(1)), typeBall(`integer`, `p(`+w+`)`))
		settlesGoal(t, k, 1, co("message_queue_create", va(1), co("p", u)), typeBall(`integer`, `p(`+w+`)`))
	}
}

// P20.2: assertz and asserta: each ball in its order.
func TestAssertBalls(t *testing.T) {
	k := roomyKernel(t, 1, pred("s", 1), pred("u", 0))
	for _, name := range []string{`assertz`, `asserta`, `retract`} {
		for _, c := range []struct{ arg, want string }{
			{`X`, inst},
			{`(X :- true)`, inst},
			{`(X :- 3)`, inst},
			{`(X :- X)`, inst},
			{`3`, typeBall(`callable`, `3`)},
			{`(3 :- true)`, typeBall(`callable`, `:-(3,true)`)},
			{`(3 :- X)`, typeBall(`callable`, `:-(3,_1)`)},
			{`(p :- 3)`, typeBall(`callable`, `:-(p,3)`)},
			{`(p(Y, X) :- -3)`, typeBall(`callable`, `:-(p(_1,_2),-3)`)},
			{`(s(1) :- 3)`, typeBall(`callable`, `:-(s(1),3)`)},
			{`(true :- 3)`, typeBall(`callable`, `:-(true,3)`)},
			{`s(X)`, permBall(`modify`, `static_procedure`, `/(s,1)`)},
			{`(s(1) :- b)`, permBall(`modify`, `static_procedure`, `/(s,1)`)},
			{`(u :- X)`, permBall(`modify`, `static_procedure`, `/(u,0)`)},
		} {
			settles(t, k, 1, name+`(`+c.arg+`)`, c.want)
		}
	}
	if k.Faults() != 0 {
		t.Error("faults")
	}
}

// known are predicates that layer 17 knows, and layer 19's own; others are none of both.
func known() (static, others []api.Pred) {
	for arity, names := range []string{
		`true fail false !`,
		`var nonvar atom integer number compound atomic callable is_list \+ throw call`,
		`= \= == \== @< @=< @> @>= is =:= =\= < =< > >= =.. copy_term , ; -> call`,
		`compare functor arg catch call`,
		`call`, `call`, `call`, `call`, `call`,
	} {
		for _, name := range strings.Fields(names) {
			static = append(static, pred(name, arity))
		}
	}
	for arity, names := range []string{
		`call catch , ; -> \+ throw is var assertz retract s :- halt`,
		`true fail ! assertz asserta retract out thread_self mutex_lock s : catch is`,
		`! var throw compare clause thread_join thread_create s :- \+ catch`,
		`is = , ; -> s copy_term`,
		`functor catch`,
	} {
		for _, name := range strings.Fields(names) {
			others = append(others, pred(name, arity))
		}
	}
	return static, others
}

// headOf is a head of a predicate.
func headOf(p api.Pred) api.Term {
	var args []api.Term
	for i := range p.Arity {
		args = append(args, va(int64(i+1)))
	}
	if p.Arity == 0 {
		return at(p.Name)
	}
	return co(p.Name, args...)
}

// P20.2: the static predicates: those that New is told, layer 17's, and layer 19's own; no others.
func TestStatic(t *testing.T) {
	static, others := known()
	static = append(static, pred("s", 3), pred("s", 0), pred("assertz", 2))
	k := roomyKernel(t, 1, pred("s", 3), pred("s", 0), pred("s", 0), pred("assertz", 2), pred("is", 2), pred("true", -1), pred("", 900))
	for _, p := range static {
		h, name := headOf(p), text(slash(p))
		for _, ask := range []string{"assertz", "asserta", "retract"} {
			settlesGoal(t, k, 1, co(ask, co(":-", h, at("b"))), permBall(`modify`, `static_procedure`, name))
			if p != pred(":-", 2) {
				settlesGoal(t, k, 1, co(ask, h), permBall(`modify`, `static_procedure`, name))
			}
		}
		settlesGoal(t, k, 1, co("clause", h, va(9)), permBall(`access`, `private_procedure`, name))
		settlesGoal(t, k, 1, co("clause", h, nu(9)), permBall(`access`, `private_procedure`, name))
	}
	k = roomyKernel(t, 1, pred("t", 0))
	for i, p := range others {
		h, name, id := headOf(p), text(slash(p)), strconv.Itoa(i+1)
		c := text(renamed(co(":-", h, at("b"))))
		ids := `[` + id + `]`
		doesGoal(t, k, 1, co("assertz", co(":-", h, at("b"))), `yes`, `'$add'(`+c+`,`+id+`)`)
		doesGoal(t, k, 1, co("clause", h, at("b")), `clause(`+text(h)+`,b)`, `'$read'(`+name+`,`+ids+`)`)
		doesGoal(t, k, 1, co("retract", co(":-", h, va(9))), `retract(`+c+`)`, `'$read'(`+name+`,`+ids+`)`, `'$cut'(`+name+`,`+id+`)`)
	}
}

// P20.2: assertz and asserta: clauses come behind and ahead, renamed, and of each form.
func TestAssert(t *testing.T) {
	k := roomyKernel(t, 3)
	does(t, k, 1, `assertz(p(Y, X, Y))`, `yes`, `'$add'(:-(p(_1,_2,_1),true),1)`)
	does(t, k, 2, `asserta((p(X, Y, Z) :- q(Z), Y))`, `yes`, `'$push'(:-(p(_1,_2,_3),','(q(_3),_2)),2)`)
	does(t, k, 3, `assertz((p(1, 2, 3) :- X))`, `yes`, `'$add'(:-(p(1,2,3),_1),3)`)
	does(t, k, 3, `asserta(p(0, 0, 0))`, `yes`, `'$push'(:-(p(0,0,0),true),4)`)
	does(t, k, 1, `p(a, B, C)`, `:-(p(0,0,0),true); :-(p(_1,_2,_3),','(q(_3),_2)); :-(p(_1,_2,_1),true); :-(p(1,2,3),_1)`,
		`'$read'(/(p,3),[4,2,1,3])`)
	does(t, k, 1, `assertz(((a :- b) :- c))`, `yes`, `'$add'(:-(:-(a,b),c),5)`)
	does(t, k, 1, `assertz(:-(a))`, `yes`, `'$add'(:-(:-(a),true),6)`)
	does(t, k, 1, `assertz((a :- (b :- c)))`, `yes`, `'$add'(:-(a,:-(b,c)),7)`)
	does(t, k, 1, `assertz((a :- a))`, `yes`, `'$add'(:-(a,a),8)`)
	does(t, k, 1, `assertz(a)`, `yes`, `'$add'(:-(a,true),9)`)
	does(t, k, 2, `a`, `:-(a,:-(b,c)); :-(a,a); :-(a,true)`, `'$read'(/(a,0),[7,8,9])`)
	does(t, k, 2, `(X :- Y)`, `:-(:-(a,b),c)`, `'$read'(/(:-,2),[5])`)
	does(t, k, 2, `:-(X)`, `:-(:-(a),true)`, `'$read'(/(:-,1),[6])`)
}

// P20.2: resource(clauses): of one predicate, and of predicates; a number was given out all the same.
func TestTooManyClauses(t *testing.T) {
	k := roomyKernel(t, 1)
	for i := 1; i <= api.MaxClause; i++ {
		n := strconv.Itoa(i)
		does(t, k, 1, `assertz(p(`+n+`))`, `yes`, `'$add'(:-(p(`+n+`),true),`+n+`)`)
	}
	does(t, k, 1, `assertz(p(x))`, resBall(`clauses`))
	does(t, k, 1, `asserta(p(x))`, resBall(`clauses`))
	does(t, k, 1, `assertz(q(1))`, `yes`, `'$add'(:-(q(1),true),203)`)
	for i := 3; i <= api.MaxPreds; i++ {
		n := strconv.Itoa(i)
		does(t, k, 1, `assertz(r`+n+`)`, `yes`, `'$add'(:-(r`+n+`,true),`+strconv.Itoa(201+i)+`)`)
	}
	does(t, k, 1, `assertz(r61)`, resBall(`clauses`))
	does(t, k, 1, `asserta((r61 :- a))`, resBall(`clauses`))
	settles(t, k, 1, `r61`, noneBall(`procedure`, `/(r61,0)`))
	does(t, k, 1, `retract(r61)`, `no`, `'$read'(/(r61,0),[]) = no`)
	does(t, k, 1, `assertz(r60)`, `yes`, `'$add'(:-(r60,true),264)`)
}

// P20.2: resource(cells): without room, and with a bound on what waits.
func TestTooFewCells(t *testing.T) {
	k := made(t, api.Conf{Threads: 2, Cells: 60, Limbo: 8}, 2)
	does(t, k, 1, `assertz(p)`, resBall(`cells`))
	does(t, k, 1, `p`, `no`, `'$read'(/(p,0),[]) = no`)
	does(t, k, 1, `retract(p)`, `no`, `'$read'(/(p,0),[]) = no`)
	k = made(t, api.Conf{Threads: 2, Cells: 1000, Limbo: 0}, 2)
	does(t, k, 1, `asserta(p)`, resBall(`cells`))
	does(t, k, 1, `clause(p, X)`, `no`, `'$read'(/(p,0),[]) = no`)

	k = made(t, api.Conf{Threads: 2, Cells: 62, Limbo: 8}, 2)
	does(t, k, 1, `assertz(p(1))`, `yes`, `'$add'(:-(p(1),true),1)`)
	does(t, k, 1, `assertz(p(2))`, resBall(`cells`))
	does(t, k, 1, `retract(p(1))`, resBall(`cells`), `'$read'(/(p,1),[1])`)
	does(t, k, 1, `retract(p(2))`, `no`, `'$read'(/(p,1),[1])`)
	does(t, k, 2, `p(X)`, `:-(p(1),true)`, `'$read'(/(p,1),[1])`)
	does(t, k, 2, `assertz(q(1))`, resBall(`cells`))
}

// P20.2: resource(cells) of an Erase, while somebody who reads holds what waits.
func TestHeldCells(t *testing.T) {
	k := made(t, api.Conf{Threads: 2, Cells: 1000, Limbo: 1}, 2)
	does(t, k, 1, `assertz(p(1))`, `yes`, `'$add'(:-(p(1),true),1)`)
	j := begun(t, k, 2, goalOf(t, `p(X)`))
	j.Step()
	j.Step()
	does(t, k, 1, `assertz(p(2))`, `yes`, `'$add'(:-(p(2),true),2)`)
	does(t, k, 1, `retract(p(_))`, resBall(`cells`), `'$read'(/(p,1),[1,2])`)
	does(t, k, 1, `asserta(p(3))`, resBall(`cells`))
	run(t, j)
	if got := replyText(j.Reply()); got != `:-(p(1),true)` {
		t.Errorf("the one who reads is told %s", got)
	}
	does(t, k, 1, `retract(p(_))`, `retract(p(1))`, `'$read'(/(p,1),[1,2])`, `'$cut'(/(p,1),1)`)
	if k.Faults() != 0 {
		t.Error("faults")
	}
}

// P20.2: retract takes the first clause that could be made the same; what is given is written as what was asked for.
func TestRetract(t *testing.T) {
	k := roomyKernel(t, 2)
	for _, c := range []string{`p(1)`, `(p(2) :- a)`, `(p(X) :- b(X))`, `(p(3) :- Y)`, `p(Z)`, `(p(4) :- true)`} {
		j := begun(t, k, 1, co("assertz", goalOf(t, c)))
		run(t, j)
	}
	was := []string{`1`, `2`, `3`, `4`, `5`, `6`}
	takes := func(goal, reply, id string) {
		t.Helper()
		read := `'$read'(/(p,1),[` + strings.Join(was, `,`) + `])`
		if len(was) == 0 {
			read += ` = no`
		}
		if id == `` {
			does(t, k, 2, goal, reply, read)
			return
		}
		does(t, k, 2, goal, reply, read, `'$cut'(/(p,1),`+id+`)`)
		var left []string
		for _, w := range was {
			if w != id {
				left = append(left, w)
			}
		}
		was = left
	}
	takes(`retract((p(X) :- c))`, `retract(:-(p(3),_1))`, `4`)
	takes(`retract((p(5) :- Y))`, `retract(:-(p(_1),b(_1)))`, `3`)
	takes(`retract((p(2) :- true))`, `retract(:-(p(_1),true))`, `5`)
	takes(`retract(p(2))`, `no`, ``)
	takes(`retract(p(X))`, `retract(p(1))`, `1`)
	takes(`retract((p(X) :- X))`, `no`, ``)
	takes(`retract((p(X) :- B))`, `retract(:-(p(2),a))`, `2`)
	takes(`retract((p(4) :- Y, Z))`, `no`, ``)
	takes(`retract((p(4) :- true))`, `retract(:-(p(4),true))`, `6`)
	takes(`retract(p(X))`, `no`, ``)
	takes(`retract((p(X) :- B))`, `no`, ``)
	does(t, k, 2, `retract(q(X))`, `no`, `'$read'(/(q,1),[]) = no`)
	settles(t, k, 2, `q(X)`, noneBall(`procedure`, `/(q,1)`))
}

// P20.2: of a clause whose body is a variable, a goal without a body takes the head alone; variables are each other's own.
func TestRetractApart(t *testing.T) {
	k := roomyKernel(t, 1)
	does(t, k, 1, `assertz((p(A, B, A) :- B))`, `yes`, `'$add'(:-(p(_1,_2,_1),_2),1)`)
	does(t, k, 1, `retract((p(f(A), B, A) :- B))`, `no`, `'$read'(/(p,3),[1])`)
	does(t, k, 1, `retract(p(X, false, X))`, `no`, `'$read'(/(p,3),[1])`)
	does(t, k, 1, `retract((p(f(B), A, f(C)) :- g(B)))`, `retract(:-(p(_1,_2,_1),_2))`, `'$read'(/(p,3),[1])`, `'$cut'(/(p,3),1)`)
	does(t, k, 1, `assertz((p(A, B, A) :- B))`, `yes`, `'$add'(:-(p(_1,_2,_1),_2),2)`)
	does(t, k, 1, `retract(p(A, B, C))`, `retract(p(_1,_2,_1))`, `'$read'(/(p,3),[2])`, `'$cut'(/(p,3),2)`)
	does(t, k, 1, `assertz(r(X, f(X)))`, `yes`, `'$add'(:-(r(_1,f(_1)),true),3)`)
	does(t, k, 1, `retract(r(X, X))`, `no`, `'$read'(/(r,2),[3])`)
	does(t, k, 1, `clause(r(X, X), B)`, `no`, `'$read'(/(r,2),[3])`)
	does(t, k, 1, `clause(r(f(X), X), B)`, `no`, `'$read'(/(r,2),[3])`)
	does(t, k, 1, `clause(r(X, f(f(Y))), X)`, `no`, `'$read'(/(r,2),[3])`)
	does(t, k, 1, `clause(r(X, f(f(Y))), Z)`, `clause(r(_1,f(_1)),true)`, `'$read'(/(r,2),[3])`)
}

// P20.2: a solution that is too great is one.
func TestGreatSolutions(t *testing.T) {
	k := roomyKernel(t, 1)
	wide := co("v", va(1), va(1), va(1), va(1))
	c := co("p", va(1), wide, va(2), wide, va(3), va(3))
	doesGoal(t, k, 1, co("assertz", c), `yes`, `'$add'(:-(`+text(c)+`,true),1)`)
	g := co("p", sized(700, at("a")), va(1), va(2), va(2), va(1), va(3))
	doesGoal(t, k, 1, co("clause", g, va(5)), `clause(`+text(c)+`,true)`, `'$read'(/(p,6),[1])`)
	doesGoal(t, k, 1, co("retract", g), `retract(`+text(c)+`)`, `'$read'(/(p,6),[1])`, `'$cut'(/(p,6),1)`)
}

// P20.2: retract goes on to the next clause, where somebody else was first.
func TestRetractBeaten(t *testing.T) {
	k := roomyKernel(t, 2)
	for _, c := range []string{`p(1)`, `p(2)`, `(p(3) :- a)`, `p(4)`} {
		run(t, begun(t, k, 1, co("assertz", goalOf(t, c))))
	}
	all := `'$read'(/(p,1),[1,2,3,4])`
	j := begun(t, k, 1, goalOf(t, `retract(p(X))`))
	for was := k.Len(); k.Len() == was; {
		j.Step()
	}
	does(t, k, 2, `retract(p(1))`, `retract(p(1))`, all, `'$cut'(/(p,1),1)`)
	does(t, k, 2, `retract(p(2))`, `retract(p(2))`, `'$read'(/(p,1),[2,3,4])`, `'$cut'(/(p,1),2)`)
	was := k.Len()
	run(t, j)
	if got := entryTexts(k.Since(was)); replyText(j.Reply()) != `retract(p(4))` || got != "1 '$cut'(/(p,1),1) = no\n1 '$cut'(/(p,1),2) = no\n1 '$cut'(/(p,1),4) = yes" {
		t.Errorf("%s\n%s", replyText(j.Reply()), got)
	}
	j = begun(t, k, 1, goalOf(t, `retract((p(X) :- a))`))
	for was := k.Len(); k.Len() == was; {
		j.Step()
	}
	does(t, k, 2, `retract((p(X) :- B))`, `retract(:-(p(3),a))`, `'$read'(/(p,1),[3])`, `'$cut'(/(p,1),3)`)
	was = k.Len()
	run(t, j)
	if got := entryTexts(k.Since(was)); replyText(j.Reply()) != `no` || got != "1 '$cut'(/(p,1),3) = no" {
		t.Errorf("%s\n%s", replyText(j.Reply()), got)
	}
}

// P20.2: clause: each ball in its order, and what it tells.
func TestClause(t *testing.T) {
	k := roomyKernel(t, 1, pred("s", 1))
	settles(t, k, 1, `clause(X, B)`, inst)
	settles(t, k, 1, `clause(X, 3)`, inst)
	settles(t, k, 1, `clause(3, B)`, typeBall(`callable`, `3`))
	settles(t, k, 1, `clause(-3, 3)`, typeBall(`callable`, `-3`))
	settles(t, k, 1, `clause(s(X), 3)`, permBall(`access`, `private_procedure`, `/(s,1)`))
	does(t, k, 1, `clause(p(X), B)`, `no`, `'$read'(/(p,1),[]) = no`)
	settles(t, k, 1, `p(X)`, noneBall(`procedure`, `/(p,1)`))
	for _, c := range []string{`p(1)`, `(p(X) :- q(X))`, `(p(2) :- Y)`} {
		run(t, begun(t, k, 1, co("assertz", goalOf(t, c))))
	}
	const all = `'$read'(/(p,1),[1,2,3])`
	does(t, k, 1, `clause(p(X), B)`, `clause(p(1),true); clause(p(_1),q(_1)); clause(p(2),_1)`, all)
	does(t, k, 1, `clause(p(2), B)`, `clause(p(_1),q(_1)); clause(p(2),_1)`, all)
	does(t, k, 1, `clause(p(X), true)`, `clause(p(1),true); clause(p(2),_1)`, all)
	does(t, k, 1, `clause(p(X), q(1))`, `clause(p(_1),q(_1)); clause(p(2),_1)`, all)
	does(t, k, 1, `clause(p(3), q(1))`, `no`, all)
	does(t, k, 1, `clause(p(X), 7)`, `clause(p(2),_1)`, all)
	does(t, k, 1, `clause(p(1), 7)`, `no`, all)
	does(t, k, 1, `clause(p(X), q(f(X)))`, `clause(p(2),_1)`, all)
	does(t, k, 1, `clause((p(X) :- B), B)`, `no`, `'$read'(/(:-,2),[]) = no`)
}

// P20.2: a goal of a predicate of the DB: from the first Assert on that is begun for it, whatever it has.
func TestProgramGoal(t *testing.T) {
	k := roomyKernel(t, 2)
	settles(t, k, 1, `p(X)`, noneBall(`procedure`, `/(p,1)`))
	j := begun(t, k, 2, goalOf(t, `assertz(p(1))`))
	settles(t, k, 1, `p(X)`, noneBall(`procedure`, `/(p,1)`))
	j.Step()
	does(t, k, 1, `p(X)`, `no`, `'$read'(/(p,1),[]) = no`)
	settles(t, k, 1, `p`, noneBall(`procedure`, `/(p,0)`))
	settles(t, k, 1, `p(X, Y)`, noneBall(`procedure`, `/(p,2)`))
	run(t, j)
	does(t, k, 1, `p(7)`, `:-(p(1),true)`, `'$read'(/(p,1),[1])`)
	does(t, k, 1, `retract(p(X))`, `retract(p(1))`, `'$read'(/(p,1),[1])`, `'$cut'(/(p,1),1)`)
	does(t, k, 1, `p(7)`, `no`, `'$read'(/(p,1),[]) = no`)
}

// P20.2: anything else, whatever it is called: also what others do, and goals of the kernel's with another number of arguments.
func TestAnythingElse(t *testing.T) {
	k := roomyKernel(t, 1, pred("s", 1))
	for _, g := range []string{`q`, `q(X, Y)`, `s(1)`, `true`, `!`, `(a, b)`, `X = Y`, `call(p)`, `throw(x)`, `assertz`, `assertz(a, b)`, `retract`, `clause(a)`,
		`thread_self`, `thread_create(a)`, `thread_join(1)`, `message_queue_create`, `message_queue_create(1, 2, 3)`, `message_queue_destroy`, `thread_send_message(1)`,
		`thread_get_message(1)`, `thread_peek_message(1)`, `mutex_create`, `mutex_lock(1, 2)`, `mutex_unlock`, `mutex_destroy(1, 2)`, `out`, `out(1, 2)`,
		`'$add'(a, 1)`, `'$end'(a)`, `[]`, `[a]`, `{}`, `p :- q`, `''`} {
		u := goalOf(t, g)
		settlesGoal(t, k, 1, u, noneBall(`procedure`, text(slash(pred(u.Name, len(u.Args))))))
	}
}

// P20.2: thread_self, out.
func TestSelfAndOut(t *testing.T) {
	k := roomyKernel(t, 3)
	settles(t, k, 3, `thread_self(X)`, `thread_self(3)`)
	settles(t, k, 1, `thread_self(foo(Y))`, `thread_self(1)`)
	settles(t, k, 2, `out(f(Y, X, Y))`, `yes`)
	settles(t, k, 2, `out(X)`, `yes`)
	settles(t, k, 1, `out(7)`, `yes`)
	lines := func(n int) string {
		var all []string
		for _, u := range k.Lines(n) {
			all = append(all, text(u))
		}
		return strings.Join(all, "; ")
	}
	if lines(1) != `7` || lines(2) != `f(_1,_2,_1); _1` || lines(3) != `` || lines(4) != `` || lines(0) != `` {
		t.Errorf("lines %s, %s, %s", lines(1), lines(2), lines(3))
	}
}

// P20.2: thread_create: each ball in its order; the new thread has the goal, renamed.
func TestCreate(t *testing.T) {
	k := made(t, api.Conf{Threads: 3, Cells: 100, Limbo: 1}, 1)
	settles(t, k, 1, `thread_create(X, Y)`, inst)
	settles(t, k, 1, `thread_create(3, Y)`, typeBall(`callable`, `3`))
	settles(t, k, 1, `thread_create(f(Y, X, Y), X)`, `thread_create(_1,2)`)
	settles(t, k, 1, `thread_create(a, 77)`, `thread_create(_1,3)`)
	settles(t, k, 1, `thread_create(a, Y)`, resBall(`threads`))
	settles(t, k, 1, `thread_create(7, Y)`, typeBall(`callable`, `7`))
	settles(t, k, 1, `thread_create(Z, Y)`, inst)
	states(t, k, 1, 1, 1, 0)
	if g := text(k.Goal(2)); g != `f(_1,_2,_1)` || text(k.Goal(3)) != `a` || k.Goal(4).Kind != 0 {
		t.Errorf("goal %s", g)
	}
	ends(t, k, 2, at("x"))
	settles(t, k, 1, `thread_create(a, Y)`, resBall(`threads`))
	settles(t, k, 1, `thread_join(2, S)`, `thread_join(2,x)`)
	settles(t, k, 1, `thread_create(a, Y)`, `thread_create(_1,4)`)
}

// P20.2: thread_join: each ball in its order; behind its end a thread is joined once.
func TestJoin(t *testing.T) {
	k := roomyKernel(t, 3)
	settles(t, k, 1, `thread_join(X, S)`, inst)
	settles(t, k, 1, `thread_join(a, S)`, typeBall(`integer`, `a`))
	settles(t, k, 1, `thread_join(f(Y, X), S)`, typeBall(`integer`, `f(_1,_2)`))
	settles(t, k, 1, `thread_join(1, S)`, permBall(`join`, `thread`, `1`))
	for _, n := range append(nowhere()[1:], 4, 1<<32+2) {
		settlesGoal(t, k, 1, co("thread_join", nu(n), va(1)), noneBall(`thread`, strconv.FormatInt(n, 10)))
	}
	ends(t, k, 2, goalOf(t, `f(Y, X, Y)`))
	states(t, k, 1, 3, 1)
	settles(t, k, 1, `thread_join(2, foo)`, `thread_join(2,f(_1,_2,_1))`)
	states(t, k, 1, 0, 1)
	settles(t, k, 1, `thread_join(2, S)`, noneBall(`thread`, `2`))
	settles(t, k, 3, `thread_join(2, S)`, noneBall(`thread`, `2`))
}

// nowhere are numbers of no thread, queue or mutex: those that were and are no more, that never were, that are no int everywhere.
func nowhere() []int64 {
	return []int64{3, 0, -1, 10, 1 << 31, 1<<32 + 1, -1<<32 + 1, 1<<33 + 2, math.MaxInt64, math.MinInt64}
}

// P20.2: message queues: each ball in its order; every kind of Max.
func TestQueueBalls(t *testing.T) {
	k := roomyKernel(t, 1)
	settles(t, k, 1, `message_queue_create(Q, M)`, inst)
	settles(t, k, 1, `message_queue_create(Q, a)`, typeBall(`integer`, `a`))
	settles(t, k, 1, `message_queue_create(Q, f(X))`, typeBall(`integer`, `f(_2)`))
	settles(t, k, 1, `message_queue_create(foo)`, `message_queue_create(1)`)
	settles(t, k, 1, `message_queue_create(foo, 2)`, `message_queue_create(2,2)`)
	for i := 3; i <= api.MaxQueues; i++ {
		settles(t, k, 1, `message_queue_create(Q)`, `message_queue_create(`+strconv.Itoa(i)+`)`)
	}
	settles(t, k, 1, `message_queue_create(Q)`, resBall(`message_queues`))
	settles(t, k, 1, `message_queue_create(Q, 3)`, resBall(`message_queues`))
	settles(t, k, 1, `message_queue_create(Q, a)`, typeBall(`integer`, `a`))
	settles(t, k, 1, `message_queue_create(Q, M)`, inst)
	settles(t, k, 1, `message_queue_destroy(3)`, `yes`)
	settles(t, k, 1, `message_queue_create(Q)`, `message_queue_create(9)`)
	for _, name := range []string{`message_queue_destroy`, `thread_send_message`, `thread_get_message`, `thread_peek_message`} {
		goal := func(u api.Term) api.Term {
			if name == `message_queue_destroy` {
				return co(name, u)
			}
			return co(name, u, at("foo"))
		}
		settlesGoal(t, k, 1, goal(va(3)), inst)
		settlesGoal(t, k, 1, goal(at("a")), typeBall(`integer`, `a`))
		settlesGoal(t, k, 1, goal(co("f", va(9))), typeBall(`integer`, `f(_1)`))
		for _, n := range nowhere() {
			settlesGoal(t, k, 1, goal(nu(n)), noneBall(`message_queue`, strconv.FormatInt(n, 10)))
		}
	}
}

// P20.2: how many messages a queue takes, by its Max.
func TestQueueMax(t *testing.T) {
	for _, c := range []struct {
		max  int64
		room int
	}{{1, 1}, {2, 2}, {63, 63}, {64, 64}, {65, 64}, {0, 1}, {-1, 1}, {math.MaxInt64, 64}, {math.MinInt64, 1}, {1 << 32, 64}, {-1 << 32, 1}, {1<<32 + 1, 64}, {-1<<32 + 5, 1}} {
		k := roomyKernel(t, 1)
		settlesGoal(t, k, 1, co("message_queue_create", va(1), nu(c.max)), `message_queue_create(1,`+strconv.FormatInt(c.max, 10)+`)`)
		for range c.room {
			settles(t, k, 1, `thread_send_message(1, m(X))`, `yes`)
		}
		waits(t, k, 1, `thread_send_message(1, m(X))`)
	}
	k := roomyKernel(t, 1)
	settles(t, k, 1, `message_queue_create(Q)`, `message_queue_create(1)`)
	for range 64 {
		settles(t, k, 1, `thread_send_message(1, m(X))`, `yes`)
	}
	waits(t, k, 1, `thread_send_message(1, m(X))`)
}

// P20.2: messages are sent, got and peeked at: the first that fits.
func TestMessages(t *testing.T) {
	k := roomyKernel(t, 2)
	settles(t, k, 1, `message_queue_create(Q)`, `message_queue_create(1)`)
	settles(t, k, 1, `thread_peek_message(1, X)`, `no`)
	settles(t, k, 1, `thread_send_message(1, a(Y, X, Y))`, `yes`)
	settles(t, k, 2, `thread_send_message(1, b)`, `yes`)
	settles(t, k, 1, `thread_send_message(1, X)`, `yes`)
	settles(t, k, 2, `thread_send_message(1, 7)`, `yes`)
	settles(t, k, 2, `thread_peek_message(1, X)`, `thread_peek_message(1,a(_1,_2,_1))`)
	settles(t, k, 2, `thread_peek_message(1, b)`, `thread_peek_message(1,b)`)
	settles(t, k, 2, `thread_peek_message(1, c)`, `thread_peek_message(1,_1)`)
	settles(t, k, 2, `thread_get_message(1, a(X, f(X), Y))`, `thread_get_message(1,a(_1,_2,_1))`)
	settles(t, k, 2, `thread_get_message(1, 7)`, `thread_get_message(1,_1)`)
	settles(t, k, 2, `thread_get_message(1, 7)`, `thread_get_message(1,7)`)
	settles(t, k, 1, `thread_peek_message(1, c)`, `no`)
	settles(t, k, 1, `thread_get_message(1, X)`, `thread_get_message(1,b)`)
	settles(t, k, 1, `thread_peek_message(1, X)`, `no`)
}

// P20.2: mutexes: each ball in its order.
func TestMutexBalls(t *testing.T) {
	k := roomyKernel(t, 2)
	for i := 1; i <= api.MaxLocks; i++ {
		settles(t, k, 1, `mutex_create(foo)`, `mutex_create(`+strconv.Itoa(i)+`)`)
	}
	settles(t, k, 1, `mutex_create(M)`, resBall(`mutexes`))
	settles(t, k, 1, `mutex_destroy(3)`, `yes`)
	settles(t, k, 1, `mutex_create(M)`, `mutex_create(9)`)
	for _, g := range []string{`mutex_lock`, `mutex_unlock`, `mutex_destroy`} {
		settles(t, k, 1, g+`(X)`, inst)
		settles(t, k, 1, g+`(a)`, typeBall(`integer`, `a`))
		settles(t, k, 1, g+`(f(Y, X))`, typeBall(`integer`, `f(_1,_2)`))
		for _, n := range nowhere() {
			settlesGoal(t, k, 1, co(g, nu(n)), noneBall(`mutex`, strconv.FormatInt(n, 10)))
		}
	}
	settles(t, k, 1, `mutex_unlock(1)`, permBall(`unlock`, `mutex`, `1`))
	settles(t, k, 1, `mutex_lock(1)`, `yes`)
	settles(t, k, 1, `mutex_lock(1)`, `yes`)
	settles(t, k, 2, `mutex_unlock(1)`, permBall(`unlock`, `mutex`, `1`))
	settles(t, k, 2, `mutex_destroy(1)`, permBall(`destroy`, `mutex`, `1`))
	settles(t, k, 1, `mutex_destroy(1)`, permBall(`destroy`, `mutex`, `1`))
	settles(t, k, 1, `mutex_unlock(1)`, `yes`)
	settles(t, k, 1, `mutex_destroy(1)`, permBall(`destroy`, `mutex`, `1`))
	settles(t, k, 1, `mutex_unlock(1)`, `yes`)
	settles(t, k, 1, `mutex_unlock(1)`, permBall(`unlock`, `mutex`, `1`))
	settles(t, k, 2, `mutex_destroy(1)`, `yes`)
	settles(t, k, 2, `mutex_destroy(1)`, noneBall(`mutex`, `1`))
	settles(t, k, 2, `mutex_lock(1)`, noneBall(`mutex`, `1`))
}
