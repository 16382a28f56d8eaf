package arith

import (
	"cmp"
	"math"
	"math/bits"
)

// operands are the numbers that a function is asked of; of one argument the second is 0.
type operands [2]int64

// What may be wrong with a function's numbers; nothing, where a number comes of them.
const (
	noFlaw      = ""
	overflow    = "int_overflow"
	zeroDivisor = "zero_divisor"
	undefined   = "undefined"
)

// isFunction tells whether a name with so many arguments is in the list.
func isFunction(name string, args int) bool {
	switch name {
	case "+", "-":
		return args == 1 || args == 2
	case "abs", "sign", `\`:
		return args == 1
	case "*", "min", "max", `/\`, `\/`, "xor", "//", "rem", "mod", ">>", "<<", "^", "**":
		return args == 2
	}
	return false
}

// call is what a function in the list makes of its numbers.
func call(name string, args int, x operands) (int64, string) {
	if args == 1 {
		return callOne(name, x[0])
	}
	return callTwo(name, x)
}

// callOne is what a function of one argument makes of it.
func callOne(name string, a int64) (int64, string) {
	switch name {
	case "sign":
		return int64(cmp.Compare(a, 0)), noFlaw
	case `\`:
		return ^a, noFlaw
	case "abs":
		if a >= 0 {
			return a, noFlaw
		}
		fallthrough // the absolute value of a number below 0 is its negation
	case "-":
		return difference(operands{0, a})
	}
	return a, noFlaw
}

// callTwo is what a function of two arguments makes of them.
func callTwo(name string, x operands) (int64, string) {
	switch name {
	case "+":
		return sum(x)
	case "-":
		return difference(x)
	case "*":
		return product(x)
	case "min":
		return min(x[0], x[1]), noFlaw
	case "max":
		return max(x[0], x[1]), noFlaw
	case `/\`:
		return x[0] & x[1], noFlaw
	case `\/`:
		return x[0] | x[1], noFlaw
	case "xor":
		return x[0] ^ x[1], noFlaw
	case "//":
		return quotient(x)
	case "rem":
		return remainder(x)
	case "mod":
		return modulo(x)
	case ">>":
		return halved(x)
	case "<<":
		return doubled(x)
	}
	return power(x)
}

// sum has an overflow where the second number moved the first one the other way.
func sum(x operands) (int64, string) {
	s := x[0] + x[1]
	if (x[1] < 0) != (s < x[0]) {
		return 0, overflow
	}
	return s, noFlaw
}

// difference has an overflow where the second number moved the first one the other way.
func difference(x operands) (int64, string) {
	d := x[0] - x[1]
	if (x[1] > 0) != (d < x[0]) {
		return 0, overflow
	}
	return d, noFlaw
}

// product multiplies without signs, which makes two words, and then sees whether these are an int64.
func product(x operands) (int64, string) {
	high, low := bits.Mul64(unsigned(x[0]), unsigned(x[1]))
	most := uint64(math.MaxInt64)
	isBelow := (x[0] < 0) != (x[1] < 0)
	if isBelow {
		most++
	}
	if high > 0 || low > most {
		return 0, overflow
	}
	if isBelow {
		return int64(-low), noFlaw
	}
	return int64(low), noFlaw
}

// unsigned is a number without its sign; the least one's has no int64.
func unsigned(a int64) uint64 {
	if a < 0 {
		return -uint64(a)
	}
	return uint64(a)
}

// quotient is a quotient without its fraction.
func quotient(x operands) (int64, string) {
	switch {
	case x[1] == 0:
		return 0, zeroDivisor
	case x[0] == math.MinInt64 && x[1] == -1:
		return 0, overflow
	}
	return x[0] / x[1], noFlaw
}

// remainder is what a quotient without its fraction leaves.
func remainder(x operands) (int64, string) {
	if x[1] == 0 {
		return 0, zeroDivisor
	}
	return x[0] % x[1], noFlaw
}

// modulo is what a quotient that is rounded down leaves.
func modulo(x operands) (int64, string) {
	if x[1] == 0 {
		return 0, zeroDivisor
	}
	left := x[0] % x[1]
	if left != 0 && (left < 0) != (x[1] < 0) {
		left += x[1]
	}
	return left, noFlaw
}

// halved is a number that is halved so many times, and rounded down.
func halved(x operands) (int64, string) {
	if x[1] < 0 {
		return 0, undefined
	}
	return x[0] >> x[1], noFlaw
}

// doubled is a number that is doubled so many times; if it is no int64, halving it as many times doesn't lead back.
func doubled(x operands) (int64, string) {
	if x[1] < 0 {
		return 0, undefined
	}
	d := x[0] << x[1]
	if d>>x[1] != x[0] {
		return 0, overflow
	}
	return d, noFlaw
}

// power is a number to the power of another one.
func power(x operands) (int64, string) {
	a, b := x[0], x[1]
	switch {
	case b < 0 && a != 1 && a != -1:
		return 0, undefined
	case b == 0:
		return 1, noFlaw
	case a >= -1 && a <= 1: // it would be multiplied for long without an overflow
		if b&1 == 0 {
			a *= a
		}
		return a, noFlaw
	}
	p := int64(1)
	for range b {
		var flaw string
		if p, flaw = product(operands{p, a}); flaw != noFlaw {
			return 0, flaw
		}
	}
	return p, noFlaw
}
