package read_test

import (
	"math"
	"testing"

	"pythia/api"
)

// P10.1: the chapter's examples.
func TestExamples(t *testing.T) {
	reads(t, "a :- b, \\+ c.", api.Read{Term: co(":-", at("a"), co(",", at("b"), co("\\+", at("c"))))})
	reads(t, "X = [1,Y|X].", api.Read{Term: co("=", va(1), co(".", nu(1), co(".", va(2), va(1)))), Names: []string{"X", "Y"}})
	reads(t, "- 1.", api.Read{Term: co("-", nu(1))})
	reads(t, "-1.", api.Read{Term: nu(-1)})
	refused(t, "a = .", api.ErrSyntax, 4)
	refused(t, "f(", api.ErrEnd, 2)
	reads(t, ":- op(700, xfx, eq). a eq b.", api.Read{Term: co("eq", at("a"), at("b")), At: 21})
}

// P10.1: texts without a term.
func TestNothing(t *testing.T) {
	for _, text := range []string{"", " ", "\n\t", "% a.", "/* a. */", " % a\n/**/ "} {
		reads(t, text)
	}
}

// P10.1: numbers and variables.
func TestPlainParts(t *testing.T) {
	reads(t, "0.", api.Read{Term: nu(0)})
	reads(t, "0'a.", api.Read{Term: nu(97)})
	reads(t, "0'\\n.", api.Read{Term: nu(10)})
	reads(t, "9223372036854775807.", api.Read{Term: nu(math.MaxInt64)})
	reads(t, "X.", api.Read{Term: va(1), Names: []string{"X"}})
	reads(t, "_.", api.Read{Term: va(1), Names: []string{"_"}})
	reads(t, "  a % a\n .", api.Read{Term: at("a"), At: 2})
	reads(t, "/*a*/a/*a*/.", api.Read{Term: at("a"), At: 5})
	eachUnfit(t, "1 ^2.", "1^a.", "X ^Y.", "X^(a).", "X ^(a).", "1^(a).", "1 ^[].", "X^{}.", "a ^1.", "a ^X.", "a ^b.", "a^'b'.", "'a' ^'b'.", "^.", "^. a.", "a. ^.")
}

// P10.1: round brackets.
func TestBrackets(t *testing.T) {
	eachTerm(t, "(a). => a", "( a ). => a", "((a)). => a", "(a :- b). => :-(a b)", "(a, b). => \",\"(a b)", "(:- a). => :-(a)",
		"1 - (2 - 3). => -(1 -(2 3))", "(1 - 2) - 3. => -(-(1 2) 3)", "(1 + 2) * 3. => *(+(1 2) 3)", "(a = b) = c. => =(=(a b) c)", "((a :- b) :- c). => :-(:-(a b) c)",
		"(-). => -", "(=). => =", "(- 1). => -(1)", "(-1). => -1", "(:-). => :-", "(X) = (X). => =(X1 X1)")
	eachUnfit(t, "(^).", "(^,).", "(a, ^).", "(a^.", "(a ^b).", "(a^].", "(a^}.", "(a^| b).", "(^]).", "a^).", "(a)^).", "(a)^(b).", "(a) ^b.", "(a :- b ^:- c).")
	refused(t, "(", api.ErrEnd, 1)
	refused(t, "(a", api.ErrEnd, 2)
	refused(t, "(a)", api.ErrEnd, 3)
	refused(t, "((a) ", api.ErrEnd, 5)
}

// P10.1: lists, what ends them, and what stands in them.
func TestLists(t *testing.T) {
	eachTerm(t, "[]. => []", "[ ]. => []", "[/* a */]. => []", "[a]. => .(a [])", "[ a ]. => .(a [])", "[a, b]. => .(a .(b []))", "[a, b, c]. => .(a .(b .(c [])))",
		"[a|b]. => .(a b)", "[a, b | c]. => .(a .(b c))", "[a | []]. => .(a [])", "[a | [b]]. => .(a .(b []))", "[a | [b | c]]. => .(a .(b c))", "[a | X]. => .(a X1)",
		"[[]]. => .([] [])", "[[], []]. => .([] .([] []))", "[[a], b]. => .(.(a []) .(b []))", "[[[a]]]. => .(.(.(a []) []) [])", "[[a | b] | c]. => .(.(a b) c)",
		"[a = b, - c | d = e]. => .(=(a b) .(-(c) =(d e)))", "[(a, b)]. => .(\",\"(a b) [])", "[(a, b), c | (d, e)]. => .(\",\"(a b) .(c \",\"(d e)))", "[(a :- b)]. => .(:-(a b) [])",
		"[1 | 2]. => .(1 2)", "[-1, -2 | -3]. => .(-1 .(-2 -3))", "[-, =, :- | \\+]. => .(- .(= .(:- \\+)))", "[] = []. => =([] [])", "[a] - [b]. => -(.(a []) .(b []))", "- []. => -([])",
		"'.'(a, []). => .(a [])", "'.'(a). => .(a)", ".(a, b). => .(a b)", "'[]'. => []", "[a, 'b', C, 4, 'f'(5)]. => .(a .(b .(X1 .(4 .(f(5) [])))))")
	eachUnfit(t, "[^.", "[^,].", "[^|].", "[^| a].", "[^)].", "[a, ^].", "[a,^,b].", "[a, ^| b].", "[a | ^].", "[a | ^| b].", "[a | b ^| c].", "[a | b^, c].", "[a | ^, b].", "[a^).", "[a^}.", "[a ^b].", "[a^. ",
		"[a | b ^c].", "[a | b^).", "[a ^:- b].", "[a | b ^:- c].", "[:- ^a].", "[a | :- ^b].", "a^].", "[]^].", "[]^(a).", "[] ^(a).", "[] ^a.", "[a]^[b].", "a^| b.", "^| b.", "a, b ^| c.")
	refused(t, "[", api.ErrEnd, 1)
	refused(t, "[a", api.ErrEnd, 2)
	refused(t, "[a,", api.ErrEnd, 3)
	refused(t, "[a|", api.ErrEnd, 3)
	refused(t, "[a|b", api.ErrEnd, 4)
	refused(t, "[a|b]", api.ErrEnd, 5)
	refused(t, "[]", api.ErrEnd, 2)
}

// P10.1: curly brackets.
func TestCurly(t *testing.T) {
	eachTerm(t, "{}. => {}", "{ }. => {}", "{a}. => {}(a)", "{ a }. => {}(a)", "{a, b}. => {}(\",\"(a b))", "{a :- b}. => {}(:-(a b))", "{:- a}. => {}(:-(a))", "{{}}. => {}({})", "{{a}}. => {}({}(a))",
		"{-}. => {}(-)", "{-1}. => {}(-1)", "{} = {}. => =({} {})", "- {a}. => -({}(a))", "{[]}. => {}([])", "[{}]. => .({} [])", "'{}'(a). => {}(a)", "'{}'. => {}", "f({a}). => f({}(a))")
	eachUnfit(t, "{^.", "{^,}.", "{^)}.", "{^|}.", "{a^).", "{a^].", "{a^| b}.", "{a ^b}.", "{a^.", "a^}.", "{}^(a).", "{} ^(a).", "{}^}.", "{a}^{b}.")
	refused(t, "{", api.ErrEnd, 1)
	refused(t, "{a", api.ErrEnd, 2)
	refused(t, "{}", api.ErrEnd, 2)
}

// P10.1: a name with ( just behind it, and apart from it.
func TestCalls(t *testing.T) {
	eachTerm(t, "f(a). => f(a)", "f( a ). => f(a)", "f(a, b). => f(a b)", "f(a,B,1,d,e,f,g,h). => f(a X1 1 d e f g h)", "f((a, b)). => f(\",\"(a b))", "f((a :- b), c). => f(:-(a b) c)", "f(g(a), g(b)). => f(g(a) g(b))",
		"'a b'(c). => \"a b\"(c)", "'f'(a). => f(a)", "''(a). => \"\"(a)", "'X'(a). => \"X\"(a)", "'1'(a). => \"1\"(a)", "','(a, b). => \",\"(a b)", "'[]'(a). => [](a)", "!(a). => !(a)", ";(a). => ;(a)", "+(a). => +(a)",
		"-(1). => -(1)", "-(1, 2). => -(1 2)", "-(-(1)). => -(-(1))", "-(-1). => -(-1)", "'-'(1). => -(1)", "=(a, b). => =(a b)", ":-(a, b). => :-(a b)", ":-(a). => :-(a)", "\\+(a, b). => \\+(a b)", "\\+(a), b. => \",\"(\\+(a) b)",
		"f(-). => f(-)", "f(-, +). => f(- +)", "f(:-). => f(:-)", "f(:-, a). => f(:- a)", "f(- a, b = c). => f(-(a) =(b c))", "f([a, b], {c, d}). => f(.(a .(b [])) {}(\",\"(c d)))", "f(a) = g(b). => =(f(a) g(b))", "-f(a). => -(f(a))")
	eachUnfit(t, "f(^).", "f(^,).", "f(a, ^).", "f(a,^,b).", "f(a^.", "f(a^].", "f(a^}.", "f(a ^b).", "f(a^| b).", "f(a ^:- b).", "f(:- ^a).", "f(a, ?- ^b).", "f ^(a).", "f/**/^(a).", "'f' ^(a).", "f(a)^(b).", "f(a) ^(b).", "! ^(a).", "= ^(a).", "f(^. ", "- f ^(a).")
	refused(t, "f(", api.ErrEnd, 2)
	refused(t, "f(a", api.ErrEnd, 3)
	refused(t, "f(a,", api.ErrEnd, 4)
	refused(t, "f(a)", api.ErrEnd, 4)
	refused(t, "'f' ( ", api.ErrSyntax, 4)
}

// P10.1: - with a number just behind it, apart from it, and in quotes.
func TestMinus(t *testing.T) {
	eachTerm(t, "-1. => -1", "- 1. => -(1)", "-/**/1. => -(1)", "-0. => 0", "- 0. => -(0)", "-0'a. => -97", "- 0'a. => -(97)", "-9223372036854775807. => -9223372036854775807", "-007. => -7",
		"- -1. => -(-1)", "- - 1. => -(-(1))", "-(1). => -(1)", "- (1). => -(1)", "1 - 1. => -(1 1)", "1 -1. => -(1 1)", "1-1. => -(1 1)", "1 - -1. => -(1 -1)", "1 - - 1. => -(1 -(1))", "a-1. => -(a 1)", "X-1. => -(X1 1)", "'a'-1. => -(a 1)",
		"[-1]. => .(-1 [])", "[- 1]. => .(-(1) [])", "f(-1, - 1). => f(-1 -(1))", "(-1) - 1. => -(-1 1)", "-1 - 1. => -(-1 1)", "-1 + 2. => +(-1 2)", "- 1 + 2. => +(-(1) 2)", "-a. => -(a)", "- a. => -(a)", "-X. => -(X1)", "\\ -1. => \\(-1)",
		"2 ** -1. => **(2 -1)", "2 ^ - 1. => ^(2 -(1))", "-1 ** 2. => **(-1 2)", "'-'. => -", "- 'a'. => -(a)", "-'1'. => -(\"1\")", "+ . => +")
	eachUnfit(t, "'-'^1.", "'-' ^1.", "+^1.", "+ ^1.", "2 ** - ^1.", "1 ^2.", "-1 ^2.", "-1^(a).", "- 1^(a).", "'-'^a.", "a ^--1.")
	eachUnfit(t, "1 ^--1.")
	table := with(t, op("-", api.FY, 0))
	terms(t, table, "-1. 1 - -1. -(1).", "-1", "-(1 -1)", "-(1)")
	refusedOver(t, table, "- 1.", "term", api.ErrSyntax, 2)
	terms(t, with(t, op("-", api.YFX, 0)), "-1. - 1.", "-1", "-(1)")
	refusedOver(t, with(t, op("-", api.YFX, 0)), "a -1.", "term", api.ErrSyntax, 2)
	terms(t, with(t, op("-", api.FY, 0), op("-", api.YFX, 0)), "-1. [-1].", "-1", ".(-1 [])")
	terms(t, with(t, op("+", api.FY, 200)), "+1. + 1. +0'a.", "+(1)", "+(1)", "+(97)")
}

// P10.1: prefix operators, and what makes atoms of them.
func TestPrefix(t *testing.T) {
	eachTerm(t, "- a. => -(a)", "\\+ a. => \\+(a)", "\\+a. => \\+(a)", ":- a. => :-(a)", "?- a, b. => ?-(\",\"(a b))", "- - a. => -(-(a))", "\\+ \\+ a. => \\+(\\+(a))", "\\+ - a. => \\+(-(a))", "- \\ a. => -(\\(a))",
		"- . => -", "-/**/. => -", ":- . => :-", "\\+ . => \\+", "(-). => -", "[-]. => .(- [])", "{-}. => {}(-)", "f(-, -). => f(- -)", "[- | -]. => .(- -)", "-, a. => \",\"(- a)", "\\+, a. => \",\"(\\+ a)",
		"- = a. => =(- a)", "- = - . => =(- -)", "\\+ = a. => =(\\+ a)", ":- = a. => =(:- a)", "- * 2. => *(- 2)", "- is a. => is(- a)", ":- :- . => :-(:-)", "- - . => -(-)", "- \\+ . => -(\\+)", "\\+ - . => \\+(-)",
		"- =(a). => -(=(a))", "- =(a, b) = c. => =(-(=(a b)) c)", "\\+ =(a). => \\+(=(a))", "- '='. => -(=)", "- '=' = a. => =(-(=) a)", "\\+ ','. => \\+(\",\")", "- = (a). => =(- a)",
		"- (a). => -(a)", "- (a, b). => -(\",\"(a b))", "\\+ (a :- b). => \\+(:-(a b))", "- [a]. => -(.(a []))", "-[]. => -([])", "- {a}. => -({}(a))", "-{}. => -({})", "- X. => -(X1)", "- (-). => -(-)",
		"'-'. => -", "'-' = a. => =(- a)", "- - * 2. => *(-(-) 2)", "- -1. => -(-1)", "- !. => -(!)",
		"a = - . => =(a -)", "- a = b. => =(-(a) b)", "- a * b. => *(-(a) b)", "- a ^ b. => -(^(a b))", "- a ** b. => -(**(a b))", "\\+ a = b. => \\+(=(a b))", "\\+ a, b. => \",\"(\\+(a) b)",
		"a - - b. => -(a -(b))", "a = \\+ . => =(a \\+)")
}

// P10.1: prefix operators that can't be taken.
func TestPrefixUnfit(t *testing.T) {
	eachUnfit(t, "'-' ^a.", "'?-'^a.", "a = \\+ ^b.", "f(:- ^a).", "[?- ^a].", ":- :- ^a.", "?- ?- ^a.", "- \\+ ^a.", "- :- ^a.", "- ^). ", "(- ^.", "- a ^b.", "- = ^. ", "= ^a.", "a :- :- ^b.", "- * ^. ", ":- a ^:- b.", "a = - ^= b.", "- =(^).", "\\+ = a ^= b.")
	refused(t, "-", api.ErrEnd, 1)
	refused(t, "- ", api.ErrEnd, 2)
	refused(t, "- -", api.ErrEnd, 3)
	refused(t, "- =", api.ErrEnd, 3)
	refused(t, "- (", api.ErrEnd, 3)
	refused(t, "(-", api.ErrEnd, 2)
	// By what stands behind: an infix or postfix operator that is a prefix one too, or is in quotes.
	table := with(t, op("po", api.XF, 100), op("in", api.XFX, 100), op("pi", api.XFX, 100), op("pi", api.FY, 50), op("pp", api.YF, 100), op("pp", api.FX, 50), op("pre", api.FY, 150))
	terms(t, table, "pre po.", "po(pre)")
	terms(t, table, "pre in a.", "in(pre a)")
	terms(t, table, "pre pi a.", "pre(pi(a))")
	terms(t, table, "pre pp.", "pre(pp)")
	terms(t, table, "pre pp a.", "pre(pp(a))")
	terms(t, table, "pre 'po'.", "pre(po)")
	terms(t, table, "pre 'in'.", "pre(in)")
	terms(t, table, "pre po(a).", "pre(po(a))")
	terms(t, table, "pre in(a) in b.", "pre(in(in(a) b))")
	terms(t, table, "pre pre po.", "pre(po(pre))")
	terms(t, table, "pre a po.", "pre(po(a))")
	refusedOver(t, table, "pre po (a).", "term", api.ErrSyntax, 7)
	refusedOver(t, table, "pre in.", "term", api.ErrSyntax, 6)
	refusedOver(t, table, "pre pp po a.", "term", api.ErrSyntax, 10)
}

// P10.1: operators between two terms, by their precedences and types.
func TestInfix(t *testing.T) {
	eachTerm(t, "a + b * c. => +(a *(b c))", "a * b + c. => +(*(a b) c)", "a - b - c. => -(-(a b) c)", "a - b - c - d. => -(-(-(a b) c) d)", "a ^ b ^ c. => ^(a ^(b c))", "a -> b ; c. => ;(->(a b) c)", "a ; b -> c. => ;(a ->(b c))",
		"a , b , c. => \",\"(a \",\"(b c))", "a,b;c,d. => ;(\",\"(a b) \",\"(c d))", "a :- b, c. => :-(a \",\"(b c))", "a --> b, c. => -->(a \",\"(b c))", "X is 1 + 2. => is(X1 +(1 2))", "a = b, c \\= d. => \",\"(=(a b) \\=(c d))",
		"a mod b rem c. => rem(mod(a b) c)", "a / b // c. => //(/(a b) c)", "a << b >> c. => >>(<<(a b) c)", "a /\\ b \\/ c. => \\/(/\\(a b) c)", "a =.. b. => =..(a b)", "a @< b. => @<(a b)", "a=:=b. => =:=(a b)", "a =\\= b. => =\\=(a b)", "a>=b. => >=(a b)", "a=<b. => =<(a b)",
		"a ** b. => **(a b)", "a ** b * c. => *(**(a b) c)", "- a + b. => +(-(a) b)", "a + - b. => +(a -(b))", "a = \\ b. => =(a \\(b))", "a=(b). => =(a b)", "a =(b), c. => \",\"(=(a b) c)", "a ,(b). => \",\"(a b)", "a - (b, c). => -(a \",\"(b c))", "1-2. => -(1 2)",
		"= = = . => =(= =)", "* = * . => =(* *)", "a = * . => =(a *)", "mod mod mod. => mod(mod mod)", "is is is. => is(is is)", "a :- b ; c -> d , \\+ e = f + g * h ^ i. => :-(a ;(b ->(c \",\"(d \\+(=(e +(f *(g ^(h i)))))))))",
		"'a' = 'b'. => =(a b)", "[a] = {b}. => =(.(a []) {}(b))", "f(a = b, c). => f(=(a b) c)")
}

// P10.1: operators that can't be taken: of too great a precedence, with a left side that is less than the part's, in quotes, with nothing behind.
func TestInfixUnfit(t *testing.T) {
	eachUnfit(t, "a = b ^= c.", "a = b ^\\= c.", "a :- b ^:- c.", "a :- b ^--> c.", "a ** b ^** c.", "a ** b ^^ c.", "a is b ^is c.", "f(a ^:- b).", "[a ^--> b].", "a ^'=' b.", "a ^',' b.", "a ^'-' 1.", "a = ^.", "a , ^.", "a - ^. ", "a = ^).", "a = ^, b.",
		"a , ^, b.", "a ^| b.", "a ; ; ^b.", "a ^foo b.", "a ^! b.", "a ^\\+ b.", "a ^\\ b.", "a ^?- b.", "a + b ^c.", "a = :- ^b.", "(a = b) = (c = d) ^= e.", "- a = b ^= c.", "\\+ a :- b ^:- c.", ":- a ^--> b.", "?- a ^:- b.", "a, b ^c.")
	refused(t, "a =", api.ErrEnd, 3)
	refused(t, "a = b", api.ErrEnd, 5)
	refused(t, "a,", api.ErrEnd, 2)
	refused(t, "a :- b. c =", api.ErrEnd, 11)
	refused(t, "a=.", api.ErrSyntax, 1)
}
