package code_test

import (
	"math/rand"
	"strconv"
	"strings"
	"testing"

	"pythia/api"
	"pythia/base"
	"pythia/code"
	"pythia/term"
)

// P18.1: the numbers of the instructions.
func TestNumbers(t *testing.T) {
	for i, op := range []int{code.Get, code.Call, code.Cut, code.Fork, code.Jump, code.Save, code.Back, code.Fail, code.Done} {
		if op != i+1 {
			t.Errorf("%d, not %d", op, i+1)
		}
	}
}

// compiles fails, if a clause's code isn't this one.
func compiles(t *testing.T, clause, want string) {
	t.Helper()
	c := asRead(t, clause)
	for _, c := range []api.Clause{c, cl(untidy(c.Head), untidy(c.Body))} {
		if got := listing(compiled(t, c)); got != want {
			t.Errorf("%s\n%s, not\n%s", clause, got, want)
		}
	}
}

// The chapter's examples.
func TestExamples(t *testing.T) {
	compiles(t, "p(X1) :- q, !.", "p/1, 1, 0: Get 1 X1; Call q; Cut; Done")
	compiles(t, "p :- (a -> b ; c).", "p/0, 0, 2: Save 0; Fork 7; Save 1; Call a; Back 0; Call b; Jump 8; Call c; Done")
	if n := len(compiled(t, asRead(t, "p :- (a -> b ; c).")).Ins); n != 9 {
		t.Errorf("%d instructions", n)
	}
}

// P18.1: heads, and Vars.
func TestHeads(t *testing.T) {
	compiles(t, "p.", "p/0, 0, 0: Done")
	compiles(t, "p :- true.", "p/0, 0, 0: Done")
	compiles(t, "p(a).", "p/1, 0, 0: Get 1 a; Done")
	compiles(t, "p(7, -3).", "p/2, 0, 0: Get 1 7; Get 2 -3; Done")
	compiles(t, "p(X, f(Y, X), Z) :- q(Z, W).", "p/3, 4, 0: Get 1 X1; Get 2 f(X2,X1); Get 3 X3; Call q(X3,X4); Done")
	compiles(t, "p(A, B, C, D, E, F, G, H).", "p/8, 8, 0: Get 1 X1; Get 2 X2; Get 3 X3; Get 4 X4; Get 5 X5; Get 6 X6; Get 7 X7; Get 8 X8; Done")
	compiles(t, "p(X, X, X, X, X, X, X, X) :- X.", "p/8, 1, 0: Get 1 X1; Get 2 X1; Get 3 X1; Get 4 X1; Get 5 X1; Get 6 X1; Get 7 X1; Get 8 X1; Call X1; Done")
	compiles(t, "p(_, _).", "p/2, 2, 0: Get 1 X1; Get 2 X2; Done")
	compiles(t, "p((a, !), \\+ b, (c ; true)).", `p/3, 0, 0: Get 1 ,(a,!); Get 2 \+(b); Get 3 ;(c,true); Done`)
	compiles(t, "p :- q(X, Y, X), r(Z).", "p/0, 3, 0: Call q(X1,X2,X1); Call r(X3); Done")
	compiles(t, "p :- fail.", "p/0, 0, 0: Fail; Done")
	compiles(t, "(a, b) :- c.", ",/2, 0, 0: Get 1 a; Get 2 b; Call c; Done")
	compiles(t, "(a :- b) :- c.", ":-/2, 0, 0: Get 1 a; Get 2 b; Call c; Done")
	compiles(t, "! :- !.", "!/0, 0, 0: Cut; Done")
	compiles(t, "[] :- [].", "[]/0, 0, 0: Call []; Done")
	compiles(t, "'' :- ''.", "/0, 0, 0: Call ; Done")
}

// P18.1: each kind of a body.
func TestBodies(t *testing.T) {
	for body, want := range map[string]string{
		"true":            "0, 0: Done",
		"fail":            "0, 0: Fail; Done",
		"false":           "0, 0: Fail; Done",
		"!":               "0, 0: Cut; Done",
		"a":               "0, 0: Call a; Done",
		"X":               "1, 0: Call X1; Done",
		"(1, a)":          "0, 0: Call 1; Call a; Done",
		"(X, 2, X, Y)":    "2, 0: Call X1; Call 2; Call X1; Call X2; Done",
		"(a, b, c)":       "0, 0: Call a; Call b; Call c; Done",
		"((a, b), c)":     "0, 0: Call a; Call b; Call c; Done",
		"(true, a, true)": "0, 0: Call a; Done",
		"(a, !, b)":       "0, 0: Call a; Cut; Call b; Done",
		"(fail, a)":       "0, 0: Fail; Call a; Done",
		"(a ; b)":         "0, 0: Fork 3; Call a; Jump 4; Call b; Done",
		"(! ; b)":         "0, 0: Fork 3; Cut; Jump 4; Call b; Done",
		"(a ; !)":         "0, 0: Fork 3; Call a; Jump 4; Cut; Done",
		"(true ; true)":   "0, 0: Fork 2; Jump 2; Done",
		"(1 ; X)":         "1, 0: Fork 3; Call 1; Jump 4; Call X1; Done",
		"(a ; b ; c)":     "0, 0: Fork 3; Call a; Jump 7; Fork 6; Call b; Jump 7; Call c; Done",
		"((a ; b) ; c)":   "0, 0: Fork 6; Fork 4; Call a; Jump 5; Call b; Jump 7; Call c; Done",
		"(a -> b)":        "0, 2: Save 0; Fork 7; Save 1; Call a; Back 0; Call b; Jump 8; Fail; Done",
		"(a -> !)":        "0, 2: Save 0; Fork 7; Save 1; Call a; Back 0; Cut; Jump 8; Fail; Done",
		"(! -> b)":        "0, 2: Save 0; Fork 7; Save 1; Back 1; Back 0; Call b; Jump 8; Fail; Done",
		"(true -> true)":  "0, 2: Save 0; Fork 5; Save 1; Back 0; Jump 6; Fail; Done",
		"(! -> ! ; !)":    "0, 2: Save 0; Fork 7; Save 1; Back 1; Back 0; Cut; Jump 8; Cut; Done",
		"(X -> 1 ; Y)":    "2, 2: Save 0; Fork 7; Save 1; Call X1; Back 0; Call 1; Jump 8; Call X2; Done",
		"(a ; b -> c)":    "0, 2: Fork 3; Call a; Jump 11; Save 0; Fork 10; Save 1; Call b; Back 0; Call c; Jump 11; Fail; Done",
		`\+ a`:            "0, 2: Save 0; Fork 6; Save 1; Call a; Back 0; Fail; Done",
		`\+ !`:            "0, 2: Save 0; Fork 6; Save 1; Back 1; Back 0; Fail; Done",
		`\+ true`:         "0, 2: Save 0; Fork 5; Save 1; Back 0; Fail; Done",
		`\+ fail`:         "0, 2: Save 0; Fork 6; Save 1; Fail; Back 0; Fail; Done",
		`(\+ X, !)`:       "1, 2: Save 0; Fork 6; Save 1; Call X1; Back 0; Fail; Cut; Done",
	} {
		compiles(t, "p :- "+body+".", "p/0, "+want)
	}
}

// P18.1: names of bodies with another number of arguments, and of arguments of calls, are calls.
func TestCalls(t *testing.T) {
	for _, g := range []api.Term{
		co("true", at("a")), co("fail", va(1)), co("false", va(1)), co("!", at("a")), co(",", at("a")), at(","), co(",", at("!"), at("!"), at("!")),
		at(";"), co(";", at("!")), co(";", at("a"), at("!"), at("b")), at("->"), co("->", at("!")), co("->", at("a"), at("b"), at("!")), at(`\+`), co(`\+`, at("!"), at("b")),
		co("call", co(",", at("!"), at("fail"))), co(":-", at("!"), at("true")), co("*->", at("!"), at("a")), at(""), at("True"), at("[]"), at("-->"), at("^"),
		co("f", at("!"), co(";", at("a"), va(2))), va(1), va(1 << 62), nu(-5),
	} {
		for _, g := range []api.Term{g, untidy(g)} {
			renamed, next, _ := term.Rename(g, 1)
			want := code.Code{Pred: api.Pred{Name: "p"}, Vars: int(next) - 1, Ins: []code.Ins{{Op: code.Call, T: renamed}, {Op: code.Done}}}
			if got := compiled(t, cl(at("p"), co(",", g, at("true")))); !sameCode(got, want) {
				t.Errorf("%s, not %s", listing(got), listing(want))
			}
		}
	}
}

// P18.1: bodies within one another: whose slot a cut goes back to, and where what stands within leads.
func TestNested(t *testing.T) {
	for body, want := range map[string][]string{
		"(a -> b), (c -> d)": {
			"Save 0; Fork 7; Save 1; Call a; Back 0; Call b; Jump 8; Fail",   // from 0 on
			"Save 2; Fork 15; Save 3; Call c; Back 2; Call d; Jump 16; Fail", // 8
		},
		"(a -> (b -> c) ; d)": {
			"Save 0; Fork 14; Save 1; Call a; Back 0",                        // 0
			"Save 2; Fork 12; Save 3; Call b; Back 2; Call c; Jump 13; Fail", // 5
			"Jump 15; Call d", // 13
		},
		"(a -> b ; c -> d ; e)": {
			"Save 0; Fork 7; Save 1; Call a; Back 0; Call b; Jump 15",          // 0
			"Save 2; Fork 14; Save 3; Call c; Back 2; Call d; Jump 15; Call e", // 7
		},
		"((!, a -> !, b ; !), ! -> ! ; !)": {
			"Save 0; Fork 17; Save 1",                         // 0
			"Save 2; Fork 12; Save 3; Back 3; Call a; Back 2", // 3
			"Back 1; Call b; Jump 13; Back 1",                 // 9
			"Back 1; Back 0; Cut; Jump 18; Cut",               // 13
		},
		`\+ (! ; \+ !), !`: {
			"Save 0; Fork 14; Save 1; Fork 6; Back 1; Jump 12", // 0
			"Save 2; Fork 12; Save 3; Back 3; Back 2; Fail",    // 6
			"Back 0; Fail; Cut", // 12
		},
		`((\+ !, ! ; !) -> (! ; a))`: {
			"Save 0; Fork 19; Save 1; Fork 12",              // 0
			"Save 2; Fork 10; Save 3; Back 3; Back 2; Fail", // 4
			"Back 1; Jump 13; Back 1; Back 0",               // 10
			"Fork 17; Cut; Jump 18; Call a; Jump 20; Fail",  // 14
		},
	} {
		want = append(want, "Done")
		slots := strings.Count(strings.Join(want, ";"), "Save")
		compiles(t, "p :- "+body+".", "p/0, 0, "+strconv.Itoa(slots)+": "+strings.Join(want, "; "))
	}
}

// P18.1: what stands in the head moves the body's places, and nothing else of it.
func TestMoved(t *testing.T) {
	compiles(t, "p(X, a) :- (q(X) -> ! ; b ; c).", "p/2, 1, 2: Get 1 X1; Get 2 a; Save 0; Fork 9; Save 1; Call q(X1); Back 0; Cut; Jump 13; Fork 12; Call b; Jump 13; Call c; Done")
	compiles(t, `p(X) :- \+ X.`, `p/1, 1, 2: Get 1 X1; Save 0; Fork 7; Save 1; Call X1; Back 0; Fail; Done`)
}

// compileFails fails, if a clause is put into code, or not for this reason.
func compileFails(t *testing.T, what string, c api.Clause) {
	t.Helper()
	if got, e := code.Compile(c); e != api.ErrClause || !sameCode(got, code.Code{}) || got.Ins != nil {
		t.Errorf("Compile of %s: %.300s, %d", what, listing(got), e)
	}
}

// P18.1: what is no clause, and what isn't right.
func TestNoClause(t *testing.T) {
	for what, c := range map[string]api.Clause{
		"nothing":                      {},
		"no body":                      {Head: at("p")},
		"no head":                      {Body: at("true")},
		"a head that is a variable":    cl(va(1), at("true")),
		"a head that is a number":      cl(nu(1), at("true")),
		"a body that is a number":      cl(at("p"), nu(1)),
		"a head that is too deep":      cl(tower(at("a"), "s", 99), at("true")),
		"a body that is too deep":      cl(at("p"), tower(at("a"), `\+`, 99)),
		"a head that is too great":     cl(sized(1999), at("true")),
		"a body that is too great":     cl(at("p"), sized(1999)),
		"parts too great together":     cl(sized(1000), sized(1000)),
		"great parts that share much":  cl(sized(2000), sized(2000)),
		"a wrong head, a wrong body":   cl(va(0), nu(1)),
		"a variable, of another name":  cl(api.Term{Kind: api.Var, Name: "p", Int: 1}, at("true")),
		"a number with arguments":      cl(api.Term{Kind: api.Num, Name: "p", Args: times(2, at("a"))}, at("true")),
		"a body of a number, untidily": cl(at("p"), untidy(nu(3))),
	} {
		compileFails(t, what, c)
	}
	for what, w := range wrong() {
		compileFails(t, what+" as a head", cl(w, at("true")))
		compileFails(t, what+" as a body", cl(at("p"), w))
		compileFails(t, what+" as both", cl(w, w))
		compileFails(t, what+" as an argument", cl(co("p", at("a"), w), at("true")))
		compileFails(t, what+" as a number's body", cl(nu(1), w))
		for _, body := range []api.Term{co(",", at("a"), w), co(";", w, at("a")), co("->", at("fail"), w), co(`\+`, w), co("f", va(1), w)} {
			compileFails(t, what+" within a body", cl(at("p"), body))
		}
	}
}

// P18.1: clauses as great and as deep as may be.
func TestGreat(t *testing.T) {
	deep, great := tower(at("a"), "s", 98), sized(1998)
	check(t, cl(deep, at("true")))
	check(t, cl(at("p"), deep))
	check(t, cl(deep, deep))
	check(t, cl(great, at("true")))
	check(t, cl(at("p"), great))
	check(t, cl(sized(1000), sized(999)))
	many := spanned(1730)
	check(t, cl(many, at("true")))
	check(t, cl(at("p"), many))
	check(t, cl(co("p", va(1<<62), va(1<<63-1), va(1)), va(1<<63-1)))
	long := strings.Repeat("x", 64)
	check(t, cl(co(long, at(long)), co(long, co(long, va(3)))))
}

// P18.1: what layer 16 makes of a clause's term has the code of the clause.
func TestOfTerm(t *testing.T) {
	for _, c := range inputs(rand.New(rand.NewSource(1816)), 500) {
		again, e := base.Clause(base.Term(c))
		if e != api.OK || !sameCode(compiled(t, again), compiled(t, c)) {
			t.Fatalf("%s :- %s: %d", text(c.Head), text(c.Body), e)
		}
	}
}

// P18.3: clauses that differ in their variables' numbers alone have the same code.
func TestVariants(t *testing.T) {
	r := rand.New(rand.NewSource(183))
	for _, c := range inputs(r, 2000) {
		want, wantGoal := compiled(t, c), goal(t, c.Body)
		for range 4 {
			numbers := map[int64]int64{}
			for i, n := range r.Perm(50) {
				numbers[int64(i+1)] = int64(n+1) * []int64{1, 7, 1 << 56}[r.Intn(3)]
			}
			if !distinct(numbers) {
				continue
			}
			other := cl(numbered(c.Head, numbers), numbered(c.Body, numbers))
			if got := compiled(t, other); !sameCode(got, want) {
				t.Fatalf("%s :- %s\n%s, not\n%s", text(other.Head), text(other.Body), listing(got), listing(want))
			}
			if got := goal(t, other.Body); !sameCode(got, wantGoal) {
				t.Fatalf("%s\n%s, not\n%s", text(other.Body), listing(got), listing(wantGoal))
			}
		}
	}
	one, two := compiled(t, asRead(t, "p(X, Y) :- q(Y).")), compiled(t, asRead(t, "p(X, X) :- q(X)."))
	if sameCode(one, two) || one.Vars != 2 || two.Vars != 1 {
		t.Errorf("%s and %s", listing(one), listing(two))
	}
}

// distinct tells whether no two numbers have become the same.
func distinct(numbers map[int64]int64) bool {
	seen := map[int64]int{}
	for _, n := range numbers {
		if seen[n]++; seen[n] > 1 {
			return false
		}
	}
	return true
}
