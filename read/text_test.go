package read_test

import (
	"slices"
	"strconv"
	"strings"
	"testing"

	"pythia/api"
	"pythia/fault"
	"pythia/ops"
	"pythia/read"
)

// eachType are operators of each type, with the precedences that their arguments may have.
var eachType = []struct {
	kind        int
	left, right int
}{{api.XFX, 499, 499}, {api.XFY, 499, 500}, {api.YFX, 500, 499}, {api.FY, -1, 500}, {api.FX, -1, 499}, {api.XF, 499, -1}, {api.YF, 500, -1}}

// P10.1: operators of each type, with arguments of each precedence around what may be.
func TestEachType(t *testing.T) {
	for _, c := range eachType {
		for prec := 498; prec <= 502; prec++ {
			table := with(t, op("o", c.kind, 500), op("p", api.FX, prec), op("s", api.XF, prec))
			isPrefix, isPostfix := c.left < 0, c.right < 0
			switch {
			case isPrefix:
				prefixSide(t, table, prec, prec <= c.right)
			case isPostfix && prec <= c.left:
				terms(t, table, "a s o.", "o(s(a))")
			case isPostfix:
				refusedOver(t, table, "a s o.", "term", api.ErrSyntax, 4)
			default:
				infixSides(t, table, prec <= c.left, prec <= c.right)
			}
		}
	}
}

// prefixSide fails, if o doesn't take p(a) and s(a), whose precedence is prec, just as said.
func prefixSide(t *testing.T, table *ops.Table, prec int, right bool) {
	t.Helper()
	switch {
	case right:
		terms(t, table, "o p a.", "o(p(a))")
		terms(t, table, "o a s.", "o(s(a))")
	case prec > 500:
		refusedOver(t, table, "o p a.", "term", api.ErrSyntax, 4)
		terms(t, table, "o a s.", "s(o(a))")
	default:
		refusedOver(t, table, "o p a.", "term", api.ErrSyntax, 4)
		refusedOver(t, table, "o a s.", "term", api.ErrSyntax, 4)
	}
}

// infixSides fails, if o doesn't take s(a) on its left, and p(a) on its right, just as said.
func infixSides(t *testing.T, table *ops.Table, left, right bool) {
	t.Helper()
	if left {
		terms(t, table, "a s o b.", "o(s(a) b)")
	} else {
		refusedOver(t, table, "a s o b.", "term", api.ErrSyntax, 4)
	}
	if right {
		terms(t, table, "a o p b.", "o(a p(b))")
	} else {
		refusedOver(t, table, "a o p b.", "term", api.ErrSyntax, 6)
	}
}

// P10.1: operators on end to end, of each type.
func TestOnEnd(t *testing.T) {
	terms(t, with(t, op("o", api.XFY, 500)), "a o b o c o d.", "o(a o(b o(c d)))")
	terms(t, with(t, op("o", api.YFX, 500)), "a o b o c o d.", "o(o(o(a b) c) d)")
	refusedOver(t, with(t, op("o", api.XFX, 500)), "a o b o c.", "term", api.ErrSyntax, 6)
	terms(t, with(t, op("o", api.FY, 500)), "o o o a.", "o(o(o(a)))")
	refusedOver(t, with(t, op("o", api.FX, 500)), "o o a.", "term", api.ErrSyntax, 4)
	terms(t, with(t, op("o", api.FX, 500)), "o o.", "o(o)")
	terms(t, with(t, op("o", api.YF, 500)), "a o o o.", "o(o(o(a)))")
	refusedOver(t, with(t, op("o", api.XF, 500)), "a o o.", "term", api.ErrSyntax, 4)
	terms(t, with(t, op("o", api.XF, 500)), "o o.", "o(o)")
	terms(t, with(t, op("o", api.XF, 500)), "o. [o|o]. f(o). - o. a o, b o.", "o", ".(o o)", "f(o)", "o(-)", "\",\"(o(a) o(b))")
	terms(t, with(t, op("o", api.YF, 500), op("o", api.FY, 500)), "o a o. o o. o o o. a o.", "o(o(a))", "o(o)", "o(o(o))", "o(a)")
	terms(t, with(t, op("o", api.XFX, 500), op("o", api.FY, 500)), "o o o.", "o(o(o))")
}

// P10.1: the least and the greatest precedence, and those around an argument's.
func TestEdgesOfPrecedence(t *testing.T) {
	least := with(t, op("o", api.XFX, 1), op("q", api.FX, 1), op("y", api.FY, 1), op("s", api.XF, 1))
	terms(t, least, "a o b. q a. - a o b. a s. y y a. y q a.", "o(a b)", "q(a)", "-(o(a b))", "s(a)", "y(y(a))", "y(q(a))")
	refusedOver(t, least, "q a o b.", "term", api.ErrSyntax, 4)
	refusedOver(t, least, "q y a.", "term", api.ErrSyntax, 4)
	refusedOver(t, least, "a s s.", "term", api.ErrSyntax, 4)
	for prec := 998; prec <= 1200; prec++ {
		table := with(t, op("o", api.XFY, prec), op("p", api.FY, prec), op("s", api.YF, prec))
		terms(t, table, "a o b. p a. a s. (a o b). {p a}. [(a s)].", "o(a b)", "p(a)", "s(a)", "o(a b)", "{}(p(a))", ".(s(a) [])")
		for _, c := range []struct{ ahead, behind, want string }{{"f(", ")", "f(@)"}, {"f(c, ", ", d)", "f(c @ d)"}, {"[", "]", ".(@ [])"}, {"[c | ", "]", ".(c @)"}, {"[", ", c]", ".(@ .(c []))"}} {
			for text, within := range map[string]string{"a o b": "o(a b)", "p a": "p(a)", "a s": "s(a)"} {
				if prec <= 999 {
					terms(t, table, c.ahead+text+c.behind+".", strings.Replace(c.want, "@", within, 1))
				} else {
					refusedOver(t, table, c.ahead+text+c.behind+".", "term", api.ErrSyntax, len(c.ahead)+2)
				}
			}
		}
	}
}

// P10.1: operators whose names are no plain ones, and names that are operators only where they stand as such.
func TestOddNames(t *testing.T) {
	odd := with(t, op("X", api.XFX, 700), op("1", api.XFX, 700), op("(", api.XFX, 700), op("[", api.FY, 700), op("]", api.XF, 700), op("{", api.FY, 700), op(")", api.XF, 700), op("a b", api.XFX, 700), op("Y", api.FY, 200), op("2", api.FY, 200))
	refusedOver(t, odd, "a X b.", "term", api.ErrSyntax, 2)
	refusedOver(t, odd, "a 1 b.", "term", api.ErrSyntax, 2)
	refusedOver(t, odd, "a (b.", "term", api.ErrSyntax, 2)
	refusedOver(t, odd, "a ].", "term", api.ErrSyntax, 2)
	refusedOver(t, odd, "(a ) ).", "term", api.ErrSyntax, 5)
	refusedOver(t, odd, "a 'a b' b.", "term", api.ErrSyntax, 2)
	refusedOver(t, odd, "Y a.", "term", api.ErrSyntax, 2)
	refusedOver(t, odd, "2 a.", "term", api.ErrSyntax, 2)
	terms(t, odd, "[a]. {a}. (a). - X. - 1.", ".(a [])", "{}(a)", "a", "-(X1)", "-(1)")
	dot := with(t, op(".", api.YFX, 150), op("!", api.FX, 900), op(";", api.FX, 900))
	terms(t, dot, "a.b.c. !a. ;a. ! . X.Y .", ".(.(a b) c)", "!(a)", ";(a)", "!", ".(X1 X2)")
	refusedOver(t, dot, "a. .b. ", "term", api.ErrSyntax, 4)
	stop := with(t, op(".", api.FY, 100), op(".", api.XF, 100))
	terms(t, stop, ".a. a.,b. ", ".(a)", "\",\"(.(a) b)")
	refusedOver(t, stop, ".a. a.'b'. ", "term", api.ErrSyntax, 6)
}

// P10.1: variables' numbers and names, within a term and from term to term.
func TestVariables(t *testing.T) {
	reads(t, "f(X, Y, X).", api.Read{Term: co("f", va(1), va(2), va(1)), Names: []string{"X", "Y"}})
	reads(t, "f(Y, X, Y).", api.Read{Term: co("f", va(1), va(2), va(1)), Names: []string{"Y", "X"}})
	reads(t, "f(_, _, _).", api.Read{Term: co("f", va(1), va(2), va(3)), Names: []string{"_", "_", "_"}})
	reads(t, "f(_, X, _, X, _, Y).", api.Read{Term: co("f", va(1), va(2), va(3), va(2), va(4), va(5)), Names: []string{"_", "X", "_", "_", "Y"}})
	reads(t, "f(_A, _A, __, __, _, _1, _1).", api.Read{Term: co("f", va(1), va(1), va(2), va(2), va(3), va(4), va(4)), Names: []string{"_A", "__", "_", "_1"}})
	reads(t, "f(Xa, X, XA, Xa).", api.Read{Term: co("f", va(1), va(2), va(3), va(1)), Names: []string{"Xa", "X", "XA"}})
	reads(t, "f(x, 'X', X).", api.Read{Term: co("f", at("x"), at("X"), va(1)), Names: []string{"X"}})
	reads(t, "B - A = {B, A}.", api.Read{Term: co("=", co("-", va(1), va(2)), co("{}", co(",", va(1), va(2)))), Names: []string{"B", "A"}})
	reads(t, "[C, B | A] :- A, B, C, D.", api.Read{Term: co(":-", co(".", va(1), co(".", va(2), va(3))), co(",", va(3), co(",", va(2), co(",", va(1), va(4))))), Names: []string{"C", "B", "A", "D"}})
	reads(t, "p(X, Y). q(Y, X). r(_). a. s(X).",
		api.Read{Term: co("p", va(1), va(2)), Names: []string{"X", "Y"}},
		api.Read{Term: co("q", va(1), va(2)), Names: []string{"Y", "X"}, At: 9},
		api.Read{Term: co("r", va(1)), Names: []string{"_"}, At: 18},
		api.Read{Term: at("a"), At: 24},
		api.Read{Term: co("s", va(1)), Names: []string{"X"}, At: 27})
	long := "V" + strings.Repeat("v", 63)
	reads(t, long+" = "+long+".", api.Read{Term: co("=", va(1), va(1)), Names: []string{long}})
}

// P10.1: what a :- op tells between two terms begins anew, too.
func TestVariablesAroundOps(t *testing.T) {
	reads(t, "p(X). :- op(700, xfx, eq). Y eq X.",
		api.Read{Term: co("p", va(1)), Names: []string{"X"}},
		api.Read{Term: co("eq", va(1), va(2)), Names: []string{"Y", "X"}, At: 27})
}

// P10.1: texts of several terms: their places, and what parts them.
func TestTexts(t *testing.T) {
	reads(t, "a. b.\n\nc.%d.\ne.", api.Read{Term: at("a")}, api.Read{Term: at("b"), At: 3}, api.Read{Term: at("c"), At: 7}, api.Read{Term: at("e"), At: 13})
	reads(t, "% a\n(a). /* b */ [b].", api.Read{Term: at("a"), At: 4}, api.Read{Term: co(".", at("b"), at("[]")), At: 17})
	reads(t, "- a. -1. {x}. 'y'. a - b.", api.Read{Term: co("-", at("a"))}, api.Read{Term: nu(-1), At: 5}, api.Read{Term: co("{}", at("x")), At: 9}, api.Read{Term: at("y"), At: 14}, api.Read{Term: co("-", at("a"), at("b")), At: 19})
	refused(t, "a. b", api.ErrEnd, 4)
	refused(t, "a. b c. d.", api.ErrSyntax, 5)
	refused(t, "a b. c d.", api.ErrSyntax, 2)
	refused(t, "a. f(. g(", api.ErrSyntax, 5)
	refused(t, "a. .", api.ErrSyntax, 3)
	refused(t, "a", api.ErrEnd, 1)
	refused(t, "a % b.", api.ErrEnd, 6)
	refused(t, "a.b.", api.ErrSyntax, 1)
	n := 3000
	got, err := read.All(ops.New(), strings.Repeat("ab.\n ", n))
	if err != nil || len(got) != n || got[n-1].At != 5*(n-1) {
		t.Errorf("%d terms, %v", len(got), err)
	}
}

// P10.1: the errors of layer 8, ahead of all others, in their own word; nothing has been read then.
func TestTokenErrors(t *testing.T) {
	for _, c := range []struct {
		text string
		code api.Errno
		at   int
	}{
		{"a \"", api.ErrChar, 2}, {"\x00", api.ErrChar, 0}, {"a. 'b", api.ErrOpen, 3}, {"a /* b.", api.ErrOpen, 2}, {"0'", api.ErrOpen, 0}, {"a('\\x').", api.ErrEscape, 3}, {"f(9223372036854775808).", api.ErrInt, 2}, {"-9223372036854775808.", api.ErrInt, 1},
		{strings.Repeat("a", 65) + ".", api.ErrLong, 0}, {"'" + strings.Repeat("''", 65) + "'.", api.ErrLong, 0}, {"f(" + strings.Repeat("X", 65) + ").", api.ErrLong, 2}, {strings.Repeat(" ", api.MaxText+1), api.ErrLong, 0}, {strings.Repeat("a b.", 1<<20), api.ErrLong, 0},
		{"a b. f( 'c", api.ErrOpen, 8}, {"f(. \x7f", api.ErrChar, 4}, {":- op(7, xfx, ','). \xff", api.ErrChar, 20}, {strings.Repeat("(", 101) + "'", api.ErrOpen, 101}, {"\xc3\xa4.", api.ErrChar, 0},
	} {
		refusedOver(t, ops.New(), c.text, "token", c.code, c.at)
	}
	table := ops.New()
	refusedOver(t, table, ":- op(700, xfx, eq). a eq b. 'c", "token", api.ErrOpen, 29)
	has(t, table, ops.New().All())
}

// P10.1: a :- op changes the table for what follows, in the text and behind it, and isn't told.
func TestOps(t *testing.T) {
	table := ops.New()
	terms(t, table, ":- op(700, xfx, eq).")
	has(t, table, with(t, op("eq", api.XFX, 700)).All())
	terms(t, table, "a eq b.", "eq(a b)")
	refused(t, "a eq b.", api.ErrSyntax, 2)
	terms(t, table, ":- op(0, xfx, eq). eq.", "eq")
	has(t, table, ops.New().All())
	refusedOver(t, table, "a eq b.", "term", api.ErrSyntax, 2)
	for i, c := range []struct{ kind, text, want string }{
		{"xfx", "a o b.", "o(a b)"}, {"xfy", "a o b o c.", "o(a o(b c))"}, {"yfx", "a o b o c.", "o(o(a b) c)"}, {"fy", "o o a.", "o(o(a))"}, {"fx", "o a.", "o(a)"}, {"xf", "a o.", "o(a)"}, {"yf", "a o o.", "o(o(a))"},
	} {
		table := ops.New()
		terms(t, table, "o. :- op(300, "+c.kind+", o). "+c.text+" o.", "o", c.want, "o")
		has(t, table, with(t, op("o", i+1, 300)).All())
	}
	terms(t, ops.New(), ":- op(1200, xfx, =>). a :- b. a => b.", ":-(a b)", "=>(a b)")
}

// P10.1: each way to write a :- op.
func TestWaysToWriteOps(t *testing.T) {
	for _, text := range []string{":-op(700,xfx,eq).", ":- op(700, xfx, eq).", ":-(op(700, xfx, eq)).", "':-'(op(700, xfx, eq)).", ":- (op(700, xfx, eq)).", "(:- op(700, xfx, eq)).", ":- 'op'(700, 'xfx', 'eq').", ":- op(00700, xfx, eq)."} {
		table := ops.New()
		terms(t, table, text)
		has(t, table, with(t, op("eq", api.XFX, 700)).All())
	}
	table := ops.New()
	terms(t, table, ":- op(200, xfy, -). :- op(0, fy, -). :- op(0'A, fx, 'a b'). :- op(1, yf, 'X').")
	want := with(t, op("-", api.XFY, 200), op("-", api.FY, 0), op("a b", api.FX, 65), op("X", api.YF, 1))
	has(t, table, want.All())
	terms(t, table, ":- op(1200, fx, :-). :- op(1200, xfx, (:-)). :- op(0, yfx, *). a. * .", "a", "*")
	// Without :- there are no more of these.
	refusedOver(t, table, "a. :- op(0, fx, :-). a. :- op(700, xfx, eq).", "term", api.ErrSyntax, 27)
	terms(t, table, "':-'(op(700, xfx, eq)). a eq b. :-(op(0, xfx, eq)). eq.", "eq(a b)", "eq")
}

// P10.1: what is like a :- op, and is none.
func TestNoOps(t *testing.T) {
	table := ops.New()
	for _, text := range []string{
		"op(700, xfx, eq).", "?- op(700, xfx, eq).", ":- op(700, xfx).", ":- op(700, xfx, eq, a).", ":- op.", ":- 'o p'(700, xfx, eq).", ":- a.", ":- [].", ":- 700.", ":- X.", ":- op(P, xfx, eq).", ":- op(700, T, eq).", ":- op(700, xfx, N).",
		":- op(a, xfx, eq).", ":- op('700', xfx, eq).", ":- op(f(700), xfx, eq).", ":- op(700, xxx, eq).", ":- op(700, 'XFX', eq).", ":- op(700, '', eq).", ":- op(700, 1, eq).", ":- op(700, xfx(a), eq).", ":- op(700, fxf, eq).", ":- op(700, yfy, eq).", ":- op(700, 'xf ', eq).",
		":- op(700, xfx, 1).", ":- op(700, xfx, [eq]).", ":- op(700, xfx, eq(a)).", ":- op(700, xfx, [a, b]).", ":- op(700, xfx, {a}).", ":- op(700, xfx, eq), true.", "a :- op(700, xfx, eq).", ":-(op(700, xfx, eq), a).", "(:- op(700, xfx, eq)) = a.", "[:-(op(700, xfx, eq))].", "-(op(700, xfx, eq)).",
		":- op(- 1, xfx, eq).", ":- op(1 + 1, xfx, eq).", ":- op(xfx, 700, eq).", ":- op(9999, xxx, eq).", ":- op(-1, xfx, [eq]).", ":- op(X, xfx, ',').",
	} {
		got, err := read.All(table, text+" "+text)
		if err != nil || len(got) != 2 || !tidy(got[0].Term, got[1].Term) || got[1].At != len(text)+1 {
			t.Errorf("%q: %s, %v", text, told(got), err)
		}
	}
	has(t, table, ops.New().All())
}

// P10.1: a :- op that layer 9 refuses, and what stays of those ahead.
func TestRefusedOps(t *testing.T) {
	for _, text := range []string{
		":- op(1201, xfx, eq).", ":- op(-1, xfx, eq).", ":- op(9223372036854775807, xfx, eq).", ":- op(4294967996, xfx, eq).", ":- op(-9223372036854775807, fy, eq).", ":- op(700, xfx, '').", ":- op(0, xfx, '').", ":- op(700, xfx, ',').", ":- op(700, xfy, ',').", ":- op(1000, xfy, '|').",
		":- op(700, fy, []).", ":- op(700, fy, {}).", ":- op(700, fy, '[]').", ":- op(700, xf, -).", ":- op(0, yf, is).", "':-'(op(700, xf, =)).", ":- op(1201, xfx, ',').",
	} {
		table := ops.New()
		refusedOver(t, table, text, "term", api.ErrOp, 0)
		has(t, table, ops.New().All())
		refusedOver(t, table, "a. % a\n  "+text+" b", "term", api.ErrOp, 9)
		refusedOver(t, table, ":- op(700, xfx, eq). a eq b. "+text+" a b.", "term", api.ErrOp, 29)
		has(t, table, with(t, op("eq", api.XFX, 700)).All())
	}
	full := ops.New()
	for n := len(full.All()); n < api.MaxOps; n++ {
		full.Add(op("o"+strconv.Itoa(n), api.FX, 1))
	}
	was := full.All()
	refusedOver(t, full, " :- op(700, xfx, eq).", "term", api.ErrOp, 1)
	has(t, full, was)
	terms(t, full, ":- op(0, fx, o100). :- op(700, xfx, eq). a eq b.", "eq(a b)")
}

// P10.1: a :- op within a text that has an error later on stays; what the error stands ahead of isn't done.
func TestOpsAheadOfErrors(t *testing.T) {
	for text, code := range map[string]api.Errno{
		"a eq b. a b. :- op(700, xfx, ne).":   api.ErrSyntax,
		"a eq b. f(":                          api.ErrEnd,
		"a eq b. f(a,a,a,a,a,a,a,a,a). a b.":  api.ErrLong,
		"a eq b. :- op(700, xfx, ',').":       api.ErrOp,
		"a eq b. " + strings.Repeat("(", 101): api.ErrDeep,
		"a eq b. :- op(700, xfx, ne) a.":      api.ErrSyntax,
		"a eq b. :- op(700, xfx, ne)":         api.ErrEnd,
	} {
		table := ops.New()
		got, err := read.All(table, "c. :- op(700, xfx, eq). "+text)
		if fault.Code(err) != code || len(got) != 0 || !slices.Equal(fault.Path(err), []string{"term"}) {
			t.Errorf("%.80q: %s, %v", text, told(got), err)
		}
		has(t, table, with(t, op("eq", api.XFX, 700)).All())
	}
}
