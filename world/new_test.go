package world_test

import (
	"math"
	"slices"
	"strconv"
	"strings"
	"testing"

	"pythia/api"
	"pythia/fault"
	"pythia/world"
)

// refused fails, if New doesn't answer this fault, and no world.
func refused(t *testing.T, c api.Conf, program string, goals []string, want string) {
	t.Helper()
	w, e := world.New(c, program, goals)
	if w != nil || fault.Text(e) != want {
		t.Errorf("New(%v, %.200q, %.200q): a world %v, %q, not %q", c, program, goals, w != nil, fault.Text(e), want)
		return
	}
	code, at := fault.Code(e), fault.At(e)
	if told := "fault " + strconv.Itoa(int(code)) + " at " + strconv.Itoa(at); e == nil || !strings.HasSuffix(want, told) || e.Error() != want {
		t.Errorf("New(.., %.200q, %.200q): code %d at %d, not %q", program, goals, code, at, want)
	}
	if words := strings.Split(want, ": "); !slices.Equal(fault.Path(e), words[:len(words)-1]) {
		t.Errorf("New(.., %.200q, %.200q): words %q, not those of %q", program, goals, fault.Path(e), want)
	}
}

// nested is a text of a term so deep.
func nested(depth int) string {
	return strings.Repeat("f(", depth-1) + "a" + strings.Repeat(")", depth-1)
}

// wide is a text of a term with so many symbols, that isn't deep.
func wide(symbols int) string {
	if symbols == 1 {
		return "a"
	}
	var args []string
	left := symbols - 1
	for n := min(left, 8); n > 0; n-- {
		args = append(args, wide(left/n))
		left -= left / n
	}
	return "w(" + strings.Join(args, ",") + ")"
}

// preds is a text of so many clauses of a predicate each; facts one of so many clauses of one.
func preds(n int) string {
	var b strings.Builder
	for i := range n {
		b.WriteString("p" + strconv.Itoa(i) + ". ")
	}
	return b.String()
}

func facts(n int) string { return strings.Repeat("p. ", n) }

// P22.1, P1: the errors of the program's text, wrapped in "program".
func TestProgramText(t *testing.T) {
	for _, c := range []struct{ program, want string }{
		{`p(`, "program: term: fault 101 at 2"},
		{`p`, "program: term: fault 101 at 1"},
		{`p. q`, "program: term: fault 101 at 4"},
		{`a = .`, "program: term: fault 100 at 4"},
		{`p. q r.`, "program: term: fault 100 at 5"},
		{`p. 'q`, "program: token: fault 81 at 3"},
		{`p. /* q.`, "program: token: fault 81 at 3"},
		{"p. q(\"r\").", "program: token: fault 80 at 5"},
		{`p('\z').`, "program: token: fault 82 at 3"},
		{`p(9223372036854775808).`, "program: token: fault 83 at 2"},
		{`p. ` + strings.Repeat("x", 65) + ".", "program: token: fault 2 at 3"},
		{strings.Repeat(" ", api.MaxText-1) + "p.", "program: token: fault 2 at 0"},
		{`p. ` + nested(101) + ".", "program: term: fault 4 at 203"},
		{`p. ` + wide(2001) + ".", "program: term: fault 2 at 3"},
		{`p. :- op(700, xfx, ',').`, "program: term: fault 90 at 3"},
		{`:- op(1201, xfx, eq).`, "program: term: fault 90 at 0"},
		{`a eq b. :- op(700, xfx, eq).`, "program: term: fault 100 at 2"},
		{`:- op(700, xfx, eq). a eq b. :- op(0, xfx, eq). a eq b.`, "program: term: fault 100 at 50"},
		{`3. p(`, "program: term: fault 101 at 5"}, // ahead of what is no clause
		{`X. true. 'q`, "program: token: fault 81 at 9"},
	} {
		refused(t, conf(), c.program, nil, c.want)
		refused(t, api.Conf{}, c.program, []string{`X`, `f(`}, c.want)
	}
}

// P22.1, P1: the first term that is no clause, at its place.
func TestNoClause(t *testing.T) {
	for _, c := range []struct{ program, want string }{
		{`3.`, "program: fault 160 at 0"},
		{"% one\n  -3.", "program: fault 160 at 8"},
		{`p. X.`, "program: fault 160 at 3"},
		{`p. q :- 3. 4.`, "program: fault 160 at 3"},
		{`X :- p.`, "program: fault 160 at 0"},
		{`p. 3 :- p.`, "program: fault 160 at 3"},
		{`p. (3 :- X).`, "program: fault 160 at 3"},
		{`:- op(700, xfx, eq). a eq b. 7.`, "program: fault 160 at 29"},
		{`true. a = b. 3.`, "program: fault 160 at 13"}, // ahead of layer 19's
		{nested(100) + `. 3.`, "program: fault 160 at 300"},
		{facts(201) + `_.`, "program: fault 160 at 603"},
	} {
		refused(t, conf(), c.program, nil, c.want)
		refused(t, api.Conf{}, c.program, []string{`f(`, `X`}, c.want)
	}
}

// P22.1, P1: layer 19's errors of the program, at 0, the first clause's first.
func TestRefusedProgram(t *testing.T) {
	rows := map[string]string{
		nested(100) + `.`:                      "program: fault 160 at 0", // its term :-(.., true) is too deep
		`p. ` + wide(1999) + `.`:               "program: fault 160 at 0",
		nested(100) + `. true.`:                "program: fault 160 at 0",
		`true. ` + nested(100) + `.`:           "program: fault 161 at 0",
		preds(61):                              "program: fault 3 at 0",
		facts(201):                             "program: fault 3 at 0",
		preds(61) + `true.`:                    "program: fault 3 at 0",
		facts(201) + nested(100) + `.`:         "program: fault 3 at 0",
		preds(60) + `true. p60.`:               "program: fault 161 at 0",
		facts(200) + `q. true. p.`:             "program: fault 161 at 0",
		preds(60) + nested(100) + `. p60.`:     "program: fault 160 at 0",
		`:- op(700, xfx, eq). q :- p. X is Y.`: "program: fault 161 at 0",
	}
	for _, static := range strings.Fields(`true fail false ! p,q p;q p->q \+p call(X) call(X,Y) call(A,B,C,D,E,F,G,H) catch(A,B,C) throw(X) X=Y X\=Y X==Y X@<Y compare(O,A,B) var(X) is_list(X)
		X=:=Y X<Y functor(T,N,A) arg(N,T,A) T=..L copy_term(A,B) (p,q:-r) (!:-p)`) {
		rows[`p. q(X) :- p. `+static+`. r.`] = "program: fault 161 at 0"
	}
	for program, want := range rows {
		refused(t, conf(), program, nil, want)
		refused(t, api.Conf{}, program, []string{`f(`, `X`}, want)
	}
}

// P22.1: programs at the bounds are taken, and names that only nearly are layer 17's or 19's.
func TestProgramsTaken(t *testing.T) {
	for _, c := range []struct{ program, goal, want string }{
		{``, `true`, "yes true\n"},
		{" % nothing\n", `p`, "ball error(existence_error(procedure,/(p,0)),[])\n"},
		{`:- op(700, xfx, eq).`, `true`, "yes true\n"},
		{preds(60), `p59`, "yes p59\n"},
		{facts(200), `p`, "yes p\n"},
		{nested(99) + `.`, nested(99), "yes " + nested(99) + "\n"},
		{wide(1998) + `.`, `w(w(w(A,_,_,_,_,_,_,_),_,_,_,_,_,_,_),_,_,_,_,_,_,_), out(A), fail`, "w(a,a)\nno\n"},
		{`call. catch(A). throw. !(X). ','(X). true(X).`, `call, catch(1), throw, !(2), ','(3), true(4), fail`, "no\n"},
		{`:- p. p :- :-(p, q). - 1. [a]. {a}.`, `:-(p), -(1), [a], {a}, fail`, "no\n"},
		{`p :- X. q :- p, !. 'a b' :- q.`, `'a b'`, "ball error(instantiation_error,[])\n"},
		{strings.Repeat(" ", api.MaxText-2) + `p.`, `p`, "yes p\n"},
	} {
		w := made(t, c.program, c.goal)
		rests(t, w)
		tells(t, w, 1, c.want)
	}
}

// P22.1, P1: the errors of goals, the first goal's first, wrapped in "goal": layer 10's of the text as it stands.
func TestGoalErrors(t *testing.T) {
	for _, c := range []struct {
		goals []string
		want  string
	}{
		{[]string{`f(`}, "goal: term: fault 101 at 2"},
		{[]string{`a =`}, "goal: term: fault 101 at 3"},
		{[]string{`a. b =`}, "goal: term: fault 101 at 6"},
		{[]string{`a, (b`}, "goal: term: fault 101 at 5"},
		{[]string{`f(a, % b).`}, "goal: term: fault 101 at 10"},
		{[]string{strings.Repeat("(", 100)}, "goal: term: fault 101 at 100"},
		{[]string{`a b.`}, "goal: term: fault 100 at 2"},
		{[]string{`a b`}, "goal: term: fault 100 at 2"},
		{[]string{`a = .`}, "goal: term: fault 100 at 4"},
		{[]string{`a).`}, "goal: term: fault 100 at 1"},
		{[]string{`a)`}, "goal: term: fault 100 at 1"},
		{[]string{`a.b.`}, "goal: term: fault 100 at 1"},
		{[]string{`a..`}, "goal: term: fault 100 at 1"},
		{[]string{`.`}, "goal: term: fault 100 at 0"},
		{[]string{`a. .`}, "goal: term: fault 100 at 3"},
		{[]string{`'a.`}, "goal: token: fault 81 at 0"},
		{[]string{`a, ".`}, "goal: token: fault 80 at 3"},
		{[]string{`a, /* b.`}, "goal: token: fault 81 at 3"},
		{[]string{strings.Repeat(" ", api.MaxText+1)}, "goal: token: fault 2 at 0"},
		{[]string{strings.Repeat(" ", api.MaxText-1) + `a.`}, "goal: token: fault 2 at 0"},
		{[]string{nested(101) + `.`}, "goal: term: fault 4 at 200"},
		{[]string{nested(101)}, "goal: term: fault 4 at 200"},
		{[]string{` ` + wide(2001) + `.`}, "goal: term: fault 2 at 1"},
		{[]string{`a. :- op(700, xfx, '|').`}, "goal: term: fault 90 at 3"},
		{[]string{`a.`, `b.`, `X.`, `f(`}, "goal: fault 160 at 0"},
		{[]string{`a.`, `b.`, `f(`, `X.`}, "goal: term: fault 101 at 2"},
		{[]string{`a b.`, `f(`}, "goal: term: fault 100 at 2"},
	} {
		refused(t, conf(), `p(1).`, c.goals, c.want)
		refused(t, api.Conf{}, ``, c.goals, c.want) // ahead of the kernel's
	}
}

// P22.1, P1: a goal's text that lacks the full stop behind its last term ends within it: ErrEnd at its length, whatever the term is.
func TestGoalsWithoutStop(t *testing.T) {
	for _, text := range []string{`a`, ` a`, `a `, "a\n", `p(X), q(X) `, `a. b`, `a. b. c`, `a % b.`, `a /* . */`, `'a.'`, `f(.)`, `f(0'.)`, `a + +.`, `-.`, `- 1`, `[]`, `{a}`, `!`, `:- a`, `(a :- b)`,
		`X`, `_`, `3`, `-7`, `0'a`, `0'.`, `(X)`, `a. X`, `X. a`, `:- op(700, xfx, eq)`, `:- op(700, xfx, eq). a eq b`, `a. :- op(700, xfx, '|')`,
		nested(100), ` ` + wide(2000), ` ` + wide(2001), strings.Repeat(" ", api.MaxText-1) + `a`} {
		for _, goals := range [][]string{{text}, {`a.`, text}, {text, `a.`}, {`a.`, text, `X.`, `f(`, ``}} {
			refused(t, conf(), `p.`, goals, "goal: term: fault 101 at "+strconv.Itoa(len(text)))
			refused(t, api.Conf{}, `p.`, goals, "goal: term: fault 101 at "+strconv.Itoa(len(text)))
		}
	}
}

// P22.1, P1: a goal's text that isn't just one term, an atom or a compound one.
func TestNoGoal(t *testing.T) {
	for _, text := range []string{``, ` `, "\n", `% a.`, `/* a. */`, `X.`, ` _ .`, `3.`, `-7.`, `0'a.`, `(X).`, `a. b.`, `a. X.`, `X. a.`, `a. a. a.`,
		`:- op(700, xfx, eq).`, `:- op(700, xfx, eq). X.`, `:- op(700, xfx, eq). a eq b. c.`} {
		for _, goals := range [][]string{{text}, {`a.`, text}, {`a.`, `b. `, text, `f(`, ``}} {
			refused(t, conf(), ``, goals, "goal: fault 160 at 0")
			refused(t, api.Conf{}, ``, goals, "goal: fault 160 at 0")
		}
	}
}

// P22.1: a goal is one term with its full stop, blanks and remarks around it: what its thread asks for, or has come to, is that.
func TestGoalsTaken(t *testing.T) {
	for text, want := range map[string]string{
		`a.`:                           "a",
		` a . `:                        "a",
		"a\n.\n":                       "a",
		"a % b.\n.":                    "a",
		"a. % b":                       "a",
		"a.% b":                        "a",
		"% b\na /* c */.":              "a",
		`!.`:                           "!",
		`X = Y.`:                       "=(_1,_1)",
		`f(_, B, _).`:                  "f(_1,_2,_3)",
		`a + + .`:                      "+(a,+)",
		`- .`:                          "-",
		`[].`:                          "[]",
		`[a|X].`:                       "[a|_1]",
		`{a}.`:                         "'{}'(a)",
		`(a :- b).`:                    ":-(a,b)",
		`a :- b.`:                      ":-(a,b)",
		`:- a.`:                        ":-(a)",
		`'X'.`:                         "'X'",
		`f(0'.).`:                      "f(46)",
		`f('.').`:                      "f('.')",
		`f(.) .`:                       "f('.')",
		`- 1.`:                         "-(1)",
		`:- op(700, xfx, eq). a eq b.`: "eq(a,b)",
		`a ** b. :- op(0, xfx, **).`:   "**(a,b)",
		nested(100) + `.`:              nested(100),
		nested(100) + ` . `:            nested(100),
		strings.Repeat(" ", api.MaxText-2) + `a.`: "a",
		wide(2000) + `.`: wide(2000),
	} {
		w := madeOf(t, conf(), ``, []string{`true.`, text})
		rests(t, w)
		got := w.Last(2).Term
		if talk := w.Talk(2); len(talk) > 0 {
			got = talk[0].Ask
		}
		if termText(got) != want {
			t.Errorf("%.200q: %.200q, not %.200q", text, termText(got), want)
		}
	}
}

// P22.1: what a goal's text means is told by the answer that it comes to.
func TestGoalsMeant(t *testing.T) {
	for text, want := range map[string]string{
		`p(X).`:                              "yes p(1)\n",
		` p(X) . `:                           "yes p(1)\n",
		"p(X), X > 1. % the other one":       "yes ','(p(2),>(2,1))\n",
		`X = 'a b'.`:                         "yes =('a b','a b')\n",
		`- 1 = X.`:                           "yes =(-(1),-(1))\n",
		`-1 = X.`:                            "yes =(-1,-1)\n",
		`[A,B|C] = [1,2].`:                   "yes =([1,2],[1,2])\n",
		`f(_, _) = f(X, Y).`:                 "yes =(f(_1,_2),f(_1,_2))\n",
		`:- op(700, xfx, eq). (a eq b) = X.`: "yes =(eq(a,b),eq(a,b))\n",
		`a = X. :- op(0, xfx, =).`:           "yes =(a,a)\n",
	} {
		w := madeOf(t, conf(), `p(1). p(2).`, []string{text})
		rests(t, w)
		tells(t, w, 1, want)
	}
}

// P22.1: goals are read over the operators that the program's text, and the goals ahead, have left.
func TestOperators(t *testing.T) {
	eq, un := `:- op(700, xfx, eq).`, `:- op(0, xfx, eq).`
	for _, c := range []struct {
		program string
		goals   []string
		want    string // nothing, if there is a world
	}{
		{eq, []string{`a eq b.`, `c eq d.`}, ""},
		{eq + " " + un, []string{`a eq b.`}, "goal: term: fault 100 at 2"},
		{eq, []string{un + ` a.`, `a eq b.`}, "goal: term: fault 100 at 2"},
		{eq, []string{`a eq b. ` + un, `a.`}, ""},
		{eq, []string{`a eq b. ` + un, `a eq b.`}, "goal: term: fault 100 at 2"},
		{eq, []string{un + ` a eq b.`}, "goal: term: fault 100 at 21"},
		{``, []string{`a.`, eq + ` b.`, `a eq b.`}, ""},
		{``, []string{`a eq b.`, eq + ` b.`}, "goal: term: fault 100 at 2"},
		{``, []string{`a eq. :- op(700, xf, eq).`}, "goal: term: fault 100 at 2"},
		{``, []string{`a.`, eq + ` b.`, `a eq b.`, un + ` a.`, `c eq d.`}, "goal: term: fault 100 at 2"},
		{``, []string{`:- op(200, xfy, eq). a eq b eq c.`, `:- op(200, yfx, eq). a eq b eq c.`, `a eq b eq c.`}, ""},
		{`:- op(0, fy, -). a(- , 1).`, []string{`- 1.`}, "goal: term: fault 100 at 2"},
	} {
		if c.want != "" {
			refused(t, conf(), c.program, c.goals, c.want)
			continue
		}
		madeOf(t, conf(), c.program, c.goals)
	}
	w := madeOf(t, conf(), `:- op(200, xfy, eq). p(a eq b eq c).`, []string{`p(X), out(X).`, `:- op(200, yfx, eq). out(a eq b eq c).`, `out(a eq b eq c).`})
	madeOf(t, conf(), ``, []string{`true.`}) // another world's operators are its own
	refused(t, conf(), ``, []string{`a eq b.`}, "goal: term: fault 100 at 2")
	rests(t, w)
	for n, want := range []string{"eq(a,eq(b,c))", "eq(eq(a,b),c)", "eq(eq(a,b),c)"} {
		if got := termTexts(w.Lines(n + 1)); got != want {
			t.Errorf("thread %d: %s, not %s", n+1, got, want)
		}
	}
}

// P22.1, P1: the kernel's errors come last: too few cells, then more goals than threads.
func TestKernelErrors(t *testing.T) {
	few := func(n int) []string { return slices.Repeat([]string{`true.`}, n) }
	for _, cells := range []int{math.MinInt, -1, 0, 1, 59, 60, 61, api.MaxCells, api.MaxCells + 1, math.MaxInt} {
		for _, threads := range []int{math.MinInt, -1, 0, 1, 2, 7, 8, 9, math.MaxInt} {
			for _, limbo := range []int{math.MinInt, 0, 1, api.MaxLimbo, math.MaxInt} {
				c := conf()
				c.Cells, c.Threads, c.Limbo = cells, threads, limbo
				allowed := min(max(threads, 1), 8)
				for _, n := range []int{0, 1, allowed, allowed + 1, 20} {
					switch {
					case cells < 60:
						refused(t, c, `p.`, few(n), "kernel: fault 21 at 0")
					case n > allowed:
						refused(t, c, `p.`, few(n), "kernel: fault 3 at 0")
					default:
						madeOf(t, c, `p.`, few(n))
					}
				}
			}
		}
	}
	refused(t, api.Conf{}, `p.`, append(few(20), `X.`), "goal: fault 160 at 0")
	refused(t, api.Conf{Cells: 60}, `p.`, []string{`a.`, `b.`}, "kernel: fault 3 at 0")
	madeOver(t, api.Conf{Cells: 60}, `p.`, `a`)
	madeOver(t, api.Conf{Cells: 60}, `p.`)
}
