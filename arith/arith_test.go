package arith_test

import (
	"math"
	"slices"
	"strings"
	"testing"

	"pythia/api"
	"pythia/arith"
)

const (
	least    = math.MinInt64
	greatest = math.MaxInt64
)

// P12.1, P12.2: the chapter's examples, and each function's edges.
func TestEval(t *testing.T) {
	for _, c := range []struct {
		name string
		a, b int64
		want int64
	}{
		{"//", -7, 2, -3}, {"mod", -7, 2, 1}, {"rem", -7, 2, -1},
		{"//", 7, -2, -3}, {"mod", 7, -2, -1}, {"rem", 7, -2, 1},
		{"//", -7, -2, 3}, {"mod", -7, -2, -1}, {"rem", -7, -2, -1},
		{"//", 7, 2, 3}, {"mod", 7, 2, 1}, {"rem", 7, 2, 1},
		{"//", -6, 2, -3}, {"mod", -6, 2, 0}, {"mod", 6, -3, 0}, {"mod", 1, 5, 1}, {"mod", -1, 5, 4}, {"mod", 1, -5, -4},
		{"//", least, 1, least}, {"//", least + 1, -1, greatest}, {"//", greatest, -1, -greatest}, {"//", least, least, 1}, {"//", greatest, least, 0},
		{"rem", least, -1, 0}, {"mod", least, -1, 0}, {"mod", least, greatest, greatest - 1}, {"mod", greatest, least, -1}, {"rem", least, greatest, -1}, {"mod", -1, least, -1}, {"mod", 1, least, least + 1},
		{"+", greatest, 0, greatest}, {"+", greatest, least, -1}, {"+", least, greatest, -1}, {"+", 1 << 62, 1<<62 - 1, greatest}, {"+", -1 << 62, -1 << 62, least},
		{"-", least, 0, least}, {"-", -1, least, greatest}, {"-", least, least, 0}, {"-", 0, greatest, -greatest}, {"-", -2, greatest - 1, least},
		{"*", least, 1, least}, {"*", 1, least, least}, {"*", least, 0, 0}, {"*", -1, greatest, -greatest}, {"*", 1 << 32, -1 << 31, least}, {"*", -1 << 31, 1 << 32, least}, {"*", 3037000499, 3037000499, 9223372030926249001},
		{"min", least, greatest, least}, {"min", 3, -3, -3}, {"max", least, greatest, greatest}, {"max", -3, -4, -3}, {"max", 5, 5, 5},
		{`/\`, 12, 10, 8}, {`\/`, 12, 10, 14}, {"xor", 12, 10, 6}, {`/\`, -1, least, least}, {`\/`, least, greatest, -1}, {"xor", -1, greatest, least}, {`/\`, -8, 7, 0},
		{">>", -1, 100, -1}, {">>", -1, 63, -1}, {">>", -1, 64, -1}, {">>", least, 63, -1}, {">>", least, 62, -2}, {">>", greatest, 62, 1}, {">>", greatest, 63, 0}, {">>", greatest, greatest, 0}, {">>", least, greatest, -1}, {">>", -7, 1, -4}, {">>", 7, 1, 3}, {">>", least, 0, least}, {">>", 5, 1 << 32, 0}, {">>", -5, 1 << 32, -1},
		{"<<", 1, 62, 1 << 62}, {"<<", -1, 63, least}, {"<<", -2, 62, least}, {"<<", 0, 63, 0}, {"<<", 0, 64, 0}, {"<<", 0, greatest, 0}, {"<<", least, 0, least}, {"<<", greatest, 0, greatest}, {"<<", -3, 2, -12},
		{"^", 0, 0, 1}, {"^", 0, 1, 0}, {"^", 0, greatest, 0}, {"^", 5, 0, 1}, {"^", least, 0, 1}, {"^", least, 1, least}, {"^", greatest, 1, greatest}, {"^", 2, 62, 1 << 62}, {"^", -2, 62, 1 << 62}, {"^", -2, 63, least}, {"^", 3, 39, 4052555153018976267}, {"^", -3, 39, -4052555153018976267}, {"^", 7, 2, 49}, {"^", -7, 3, -343},
		{"^", 1, -1, 1}, {"^", 1, least, 1}, {"^", 1, greatest, 1}, {"^", -1, -1, -1}, {"^", -1, -2, 1}, {"^", -1, least, 1}, {"^", -1, least + 1, -1}, {"^", -1, greatest, -1}, {"^", -1, greatest - 1, 1}, {"^", -1, 0, 1},
	} {
		worth(t, co(c.name, nu(c.a), nu(c.b)), c.want)
		if c.name == "^" {
			worth(t, co("**", nu(c.a), nu(c.b)), c.want)
		}
	}
	worth(t, co("+", nu(1), co("*", nu(2), nu(3))), 7)
}

// P12.1: functions of one argument, and numbers.
func TestEvalOne(t *testing.T) {
	for _, n := range []int64{least, least + 1, -1, 0, 1, greatest} {
		worth(t, nu(n), n)
		worth(t, co("+", nu(n)), n)
		worth(t, co(`\`, nu(n)), -1-n)
		if n == least {
			thrown(t, co("-", nu(n)), flawed("int_overflow"))
			thrown(t, co("abs", nu(n)), flawed("int_overflow"))
			continue
		}
		worth(t, co("-", nu(n)), -n)
		worth(t, co("abs", nu(n)), max(n, -n))
	}
	for n, want := range map[int64]int64{least: -1, -5: -1, -1: -1, 0: 0, 1: 1, 7: 1, greatest: 1} {
		worth(t, co("sign", nu(n)), want)
	}
}

// P12.1: which evaluation errors there are.
func TestFlaws(t *testing.T) {
	for _, c := range []struct {
		name string
		a, b int64
		want string
	}{
		{"+", greatest, 1, "int_overflow"}, {"+", least, -1, "int_overflow"}, {"+", greatest, greatest, "int_overflow"}, {"+", least, least, "int_overflow"}, {"+", 1, greatest, "int_overflow"},
		{"-", least, 1, "int_overflow"}, {"-", greatest, -1, "int_overflow"}, {"-", 0, least, "int_overflow"}, {"-", -2, greatest, "int_overflow"}, {"-", greatest, least, "int_overflow"},
		{"*", least, -1, "int_overflow"}, {"*", -1, least, "int_overflow"}, {"*", greatest, 2, "int_overflow"}, {"*", least, least, "int_overflow"}, {"*", 1 << 32, 1 << 31, "int_overflow"}, {"*", 1 << 32, 1 << 32, "int_overflow"}, {"*", -1 << 32, 1<<31 + 1, "int_overflow"}, {"*", 3037000500, 3037000500, "int_overflow"},
		{"//", 1, 0, "zero_divisor"}, {"//", 0, 0, "zero_divisor"}, {"//", least, 0, "zero_divisor"}, {"rem", 1, 0, "zero_divisor"}, {"rem", 0, 0, "zero_divisor"}, {"mod", -1, 0, "zero_divisor"}, {"mod", least, 0, "zero_divisor"},
		{"//", least, -1, "int_overflow"},
		{">>", 1, -1, "undefined"}, {">>", 0, -1, "undefined"}, {">>", -1, least, "undefined"}, {"<<", 1, -1, "undefined"}, {"<<", 0, least, "undefined"}, {"<<", greatest, -64, "undefined"},
		{"<<", 1, 63, "int_overflow"}, {"<<", 1, 64, "int_overflow"}, {"<<", -1, 64, "int_overflow"}, {"<<", 2, 63, "int_overflow"}, {"<<", 1, greatest, "int_overflow"}, {"<<", 1, 1 << 32, "int_overflow"}, {"<<", greatest, 1, "int_overflow"}, {"<<", least, 1, "int_overflow"}, {"<<", 3, 62, "int_overflow"}, {"<<", -3, 62, "int_overflow"},
		{"^", 0, -1, "undefined"}, {"^", 2, -1, "undefined"}, {"^", -2, -1, "undefined"}, {"^", least, least, "undefined"}, {"^", greatest, -2, "undefined"}, {"^", 0, least, "undefined"},
		{"^", 2, 63, "int_overflow"}, {"^", 2, 64, "int_overflow"}, {"^", -2, 64, "int_overflow"}, {"^", -2, 65, "int_overflow"}, {"^", 3, 40, "int_overflow"}, {"^", 2, greatest, "int_overflow"}, {"^", -2, greatest, "int_overflow"}, {"^", greatest, 2, "int_overflow"}, {"^", least, 2, "int_overflow"}, {"^", least, greatest, "int_overflow"},
	} {
		thrown(t, co(c.name, nu(c.a), nu(c.b)), flawed(c.want))
		if c.name == "^" {
			thrown(t, co("**", nu(c.a), nu(c.b)), flawed(c.want))
		}
	}
}

// P12.1: which of several balls is told.
func TestWhichBall(t *testing.T) {
	zero := co("//", nu(1), nu(0))
	for _, c := range []struct{ term, ball api.Term }{
		{va(1), inst()},
		{va(greatest), inst()},
		{at("a"), unknown("a", 0)},
		{at(""), unknown("", 0)},
		{at("+"), unknown("+", 0)},
		{at("[]"), unknown("[]", 0)},
		{at("1"), unknown("1", 0)},
		{at(strings.Repeat("x", 64)), unknown(strings.Repeat("x", 64), 0)},
		{co("+", at("a"), va(1)), unknown("a", 0)},
		{co("+", va(1), at("a")), inst()},
		{co("+", nu(1), va(1)), inst()},
		{co("+", nu(1), at("b")), unknown("b", 0)},
		{co("+", zero, va(1)), flawed("zero_divisor")},
		{co("+", va(1), zero), inst()},
		{co("foo", va(1)), unknown("foo", 1)},
		{co("foo", zero, at("a")), unknown("foo", 2)},
		{co("+", co("foo", va(1)), va(1)), unknown("foo", 1)},
		{co("+", co("+", nu(1), co("-", va(1))), co("foo", nu(1))), inst()},
		{co("+", co("+", nu(1), at("b")), co("*", at("c"), va(1))), unknown("b", 0)},
		{co("//", at("a"), nu(0)), unknown("a", 0)},
		{co("//", nu(1), at("a")), unknown("a", 0)},
		{co("<<", co("+", nu(greatest), nu(1)), nu(-1)), flawed("int_overflow")},
		{co("<<", nu(1), co("+", nu(greatest), nu(1))), flawed("int_overflow")},
		{co("*", nu(0), zero), flawed("zero_divisor")},
		{co("^", nu(0), co("mod", nu(1), nu(0))), flawed("zero_divisor")},
		{co(".", nu(1), at("[]")), unknown(".", 2)},
	} {
		thrown(t, c.term, c.ball)
	}
}

// P12.1: a function with another number of arguments isn't in the list, whatever its arguments are.
func TestOtherArities(t *testing.T) {
	ones, twos := []string{"+", "-", "abs", "sign", `\`}, []string{"+", "-", "*", "min", "max", `/\`, `\/`, "xor", "//", "rem", "mod", ">>", "<<", "^", "**"}
	for _, name := range append(ones, twos...) {
		for n := 1; n <= 8; n++ {
			if n == 1 && slices.Contains(ones, name) || n == 2 && slices.Contains(twos, name) {
				_, _, ok := arith.Eval(co(name, slices.Repeat([]api.Term{nu(1)}, n)...))
				if !ok {
					t.Errorf("%s/%d isn't in the list", name, n)
				}
				continue
			}
			for _, arg := range []api.Term{nu(1), va(1), at("a")} {
				thrown(t, co(name, slices.Repeat([]api.Term{arg}, n)...), unknown(name, n))
			}
		}
		thrown(t, at(name), unknown(name, 0))
	}
	for _, name := range []string{"", "foo", "/", "Abs", "ABS", "div", "is", "plus", "=:=", "<", "&", "|", "~", "!", "***", "+ ", "msb", "truncate", "1"} {
		thrown(t, co(name, va(1)), unknown(name, 1))
		thrown(t, co(name, va(1), nu(2)), unknown(name, 2))
	}
}

// P12.1: of terms that aren't right there is nothing; of the greatest that are, all.
func TestEvalBounds(t *testing.T) {
	for name, w := range wrong() {
		if v, b, ok := arith.Eval(w); v != 0 || !same(b, api.Term{}) || ok {
			t.Errorf("%s is %d, %s, %v", name, v, text(b), ok)
		}
		if v, b, ok := arith.Eval(co("+", va(1), w)); v != 0 || !same(b, api.Term{}) || ok {
			t.Errorf("X1 + %s is %d, %s, %v", name, v, text(b), ok)
		}
	}
	worth(t, tower("-", 99, nu(5)), -5)
	worth(t, tower(`\`, 98, nu(5)), 5)
	thrown(t, tower("-", 99, va(1)), inst())
	thrown(t, tower("-", 99, at("x")), unknown("x", 0))
	worth(t, sums(1000, nu(3)), 3000)
	worth(t, co("-", sums(1000, nu(-3))), 3000)
	thrown(t, sums(1000, nu(greatest/500)), flawed("int_overflow"))
	shared := nu(1)
	for range 9 {
		shared = co("+", shared, shared)
	}
	worth(t, shared, 512)
}

// P12.1: each comparison, and names that are none.
func TestHolds(t *testing.T) {
	numbers := []int64{least, least + 1, -2, -1, 0, 1, 2, greatest - 1, greatest}
	for i, a := range numbers {
		for j, b := range numbers {
			for name, want := range map[string]bool{"=:=": i == j, `=\=`: i != j, "<": i < j, "=<": i <= j, ">": i > j, ">=": i >= j} {
				if holds, known := arith.Holds(name, a, b); holds != want || !known {
					t.Errorf("%d %s %d: %v, %v", a, name, b, holds, known)
				}
			}
			for _, name := range []string{"", "=", "==", "<=", "=>", "=/=", `\=`, "is", "<<", ">>", " <", "< ", "=:", "@<", "=:==", strings.Repeat("<", 1<<20)} {
				if holds, known := arith.Holds(name, a, b); holds || known {
					t.Errorf("%d %.10s %d: %v, %v", a, name, b, holds, known)
				}
			}
		}
	}
}

// P12.1: balls of formal terms, of right ones alone.
func TestBall(t *testing.T) {
	deep := tower("s", 99, at("a"))
	great := co("f", sums(999, nu(1)), nu(1))
	for _, formal := range []api.Term{at("x"), at(""), nu(least), va(3), co("type_error", at("list"), va(2)), co("f", co("g", va(1)), nu(0)), deep, great, tower("s", 2, sums(999, nu(1)))} {
		for _, u := range []api.Term{formal, untidy(formal)} {
			if got := arith.Ball(u); !same(got, co("error", formal, at("[]"))) {
				t.Errorf("Ball(%.100s) = %.100s", text(formal), text(got))
			}
		}
	}
	for name, w := range wrong() {
		if got := arith.Ball(w); !same(got, api.Term{}) {
			t.Errorf("Ball of %s = %.100s", name, text(got))
		}
		if got := arith.Ball(co("f", at("a"), w)); !same(got, api.Term{}) {
			t.Errorf("Ball of f of %s = %.100s", name, text(got))
		}
	}
}

// P12.1: balls of a name and arguments.
func TestFault(t *testing.T) {
	long := strings.Repeat("x", 64)
	eight := slices.Repeat([]api.Term{va(1)}, 8)
	for _, c := range []struct {
		kind string
		args []api.Term
		want api.Term
	}{
		{"instantiation_error", nil, inst()},
		{"instantiation_error", []api.Term{}, inst()},
		{"", nil, ball(at(""))},
		{long, nil, ball(at(long))},
		{"evaluation_error", []api.Term{at("undefined")}, flawed("undefined")},
		{"type_error", []api.Term{at("evaluable"), co("/", at("a"), nu(0))}, unknown("a", 0)},
		{long, []api.Term{nu(1)}, ball(co(long, nu(1)))},
		{"f", eight, ball(co("f", eight...))},
		{"f", []api.Term{tower("s", 98, at("a"))}, ball(co("f", tower("s", 98, at("a"))))},
		// formal terms that aren't right
		{long + "x", nil, api.Term{}},
		{long + "x", []api.Term{nu(1)}, api.Term{}},
		{"f", append(eight, nu(1)), api.Term{}},
		{"f", make([]api.Term, 100000), api.Term{}},
		{"f", []api.Term{tower("s", 99, at("a"))}, api.Term{}},
		{"f", []api.Term{sums(1000, nu(1)), nu(1)}, api.Term{}},
	} {
		var untidied []api.Term
		for _, arg := range c.args {
			untidied = append(untidied, untidy(arg))
		}
		for _, args := range [][]api.Term{c.args, untidied} {
			if got := arith.Fault(c.kind, args...); !same(got, c.want) {
				t.Errorf("Fault(%s, %d arguments) = %.100s, not %.100s", c.kind, len(c.args), text(got), text(c.want))
			}
		}
	}
	for name, w := range wrong() {
		if got := arith.Fault("f", nu(1), w); !same(got, api.Term{}) {
			t.Errorf("Fault of %s = %.100s", name, text(got))
		}
	}
}
