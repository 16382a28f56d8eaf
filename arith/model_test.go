package arith_test

import (
	"math"
	"math/big"
	"math/rand"
	"strconv"
	"testing"

	"pythia/api"
)

// whole is a number without bounds.
func whole(n int64) *big.Int { return big.NewInt(n) }

// beyond stands for a number that is far beyond 64 bits.
func beyond() *big.Int { return new(big.Int).Lsh(whole(1), 1000) }

// functions are those of the list on numbers without bounds, by their names and how many arguments they have; beside a number an evaluation error's name, if there is one.
func functions() map[string]func(a, b *big.Int) (*big.Int, string) {
	plain := func(f func(z, a, b *big.Int) *big.Int) func(a, b *big.Int) (*big.Int, string) {
		return func(a, b *big.Int) (*big.Int, string) { return f(new(big.Int), a, b), "" }
	}
	over := func(f func(z, a, b *big.Int) *big.Int) func(a, b *big.Int) (*big.Int, string) {
		return func(a, b *big.Int) (*big.Int, string) {
			if b.Sign() == 0 {
				return nil, "zero_divisor"
			}
			return f(new(big.Int), a, b), ""
		}
	}
	pick := func(sign int) func(a, b *big.Int) (*big.Int, string) {
		return func(a, b *big.Int) (*big.Int, string) {
			if a.Cmp(b) == sign {
				return a, ""
			}
			return b, ""
		}
	}
	all := map[string]func(a, b *big.Int) (*big.Int, string){
		"+/1":    func(a, b *big.Int) (*big.Int, string) { return a, "" },
		"-/1":    func(a, b *big.Int) (*big.Int, string) { return new(big.Int).Neg(a), "" },
		`\/1`:    func(a, b *big.Int) (*big.Int, string) { return new(big.Int).Not(a), "" },
		"abs/1":  func(a, b *big.Int) (*big.Int, string) { return new(big.Int).Abs(a), "" },
		"sign/1": func(a, b *big.Int) (*big.Int, string) { return whole(int64(a.Sign())), "" },
		"min/2":  pick(-1),
		"max/2":  pick(1),
		"+/2":    plain((*big.Int).Add),
		"-/2":    plain((*big.Int).Sub),
		"*/2":    plain((*big.Int).Mul),
		`/\/2`:   plain((*big.Int).And),
		`\//2`:   plain((*big.Int).Or),
		"xor/2":  plain((*big.Int).Xor),
		"///2":   over((*big.Int).Quo),
		"rem/2":  over((*big.Int).Rem),
		"mod/2":  over(func(z, a, b *big.Int) *big.Int { return z.Sub(a, new(big.Int).Mul(b, floor(a, b))) }),
		">>/2":   shift,
		"<</2":   double,
		"^/2":    power,
		"**/2":   power,
	}
	return all
}

// floor is a quotient rounded down.
func floor(a, b *big.Int) *big.Int {
	q, left := new(big.Int).QuoRem(a, b, new(big.Int))
	if left.Sign()*b.Sign() < 0 {
		q.Sub(q, whole(1))
	}
	return q
}

// shift halves a number, and rounds down each time; from some time on nothing changes any more.
func shift(a, b *big.Int) (*big.Int, string) {
	if b.Sign() < 0 {
		return nil, "undefined"
	}
	for i := whole(0); i.Cmp(b) < 0 && i.Cmp(whole(100)) < 0; i.Add(i, whole(1)) {
		a = floor(a, whole(2))
	}
	return a, ""
}

// double doubles a number.
func double(a, b *big.Int) (*big.Int, string) {
	if b.Sign() < 0 {
		return nil, "undefined"
	}
	for i := whole(0); i.Cmp(b) < 0 && i.Cmp(whole(100)) < 0; i.Add(i, whole(1)) {
		a = new(big.Int).Add(a, a)
	}
	return a, ""
}

// power is a number to the power of another one.
func power(a, b *big.Int) (*big.Int, string) {
	isOne := a.CmpAbs(whole(1)) == 0
	isOdd := b.Bit(0) == 1
	switch {
	case isOne && isOdd:
		return a, ""
	case isOne:
		return whole(1), ""
	case b.Sign() < 0:
		return nil, "undefined"
	case b.Cmp(whole(100)) <= 0:
		return new(big.Int).Exp(a, b, nil), ""
	case a.Sign() == 0:
		return whole(0), ""
	}
	return beyond(), ""
}

// model is what the chapter says of a right term.
func model(t api.Term) (int64, api.Term, bool) {
	switch t.Kind {
	case api.Num:
		return t.Int, api.Term{}, true
	case api.Var:
		return 0, inst(), false
	case api.Atom:
		return 0, unknown(t.Name, 0), false
	}
	f, is := functions()[t.Name+"/"+strconv.Itoa(len(t.Args))]
	if !is {
		return 0, unknown(t.Name, len(t.Args)), false
	}
	numbers := []*big.Int{nil, nil}
	for i, arg := range t.Args {
		v, ball, ok := model(arg)
		if !ok {
			return 0, ball, false
		}
		numbers[i] = whole(v)
	}
	v, what := f(numbers[0], numbers[1])
	switch {
	case what != "":
		return 0, flawed(what), false
	case !v.IsInt64():
		return 0, flawed("int_overflow"), false
	}
	return v.Int64(), api.Term{}, true
}

// like fails, if a term isn't answered as the model answers it.
func like(t *testing.T, term api.Term) bool {
	t.Helper()
	v, ball, ok := model(term)
	is(t, term, v, ball, ok)
	return ok
}

// edges are numbers at the edges, of both signs.
func edges() []int64 {
	all := []int64{0, math.MinInt64}
	for _, n := range []int64{1, 2, 3, 4, 5, 7, 8, 10, 21, 22, 31, 32, 33, 61, 62, 63, 64, 65, 100, 127, 128, 1000, 46340, 46341, 2097151, 2097152, 3037000499, 3037000500, 1<<31 - 1, 1 << 31, 1<<32 - 1, 1 << 32, 1<<61 - 1, 1 << 61, 1<<62 - 1, 1 << 62, 1<<62 + 1, math.MaxInt64 / 3, math.MaxInt64 - 1, math.MaxInt64} {
		all = append(all, n, -n)
	}
	return all
}

// P12.1, P12.2: each function at the edges, beside whole numbers without bounds.
func TestEdges(t *testing.T) {
	numbers, flaws := 0, 0
	for name := range functions() {
		f, args := name[:len(name)-2], name[len(name)-1]
		for _, a := range edges() {
			for _, b := range edges() {
				u := co(f, nu(a), nu(b))
				if args == '1' {
					u = co(f, nu(a))
				}
				if like(t, u) {
					numbers++
				} else {
					flaws++
				}
			}
		}
	}
	if numbers < 50000 || flaws < 20000 {
		t.Errorf("%d numbers, %d flaws", numbers, flaws)
	}
}

// P12.1, P12.2: each function at numbers of any length, made at random.
func TestAnyNumbers(t *testing.T) {
	r := rand.New(rand.NewSource(12))
	any := func() int64 { return int64(r.Uint64()) >> r.Intn(64) }
	for name := range functions() {
		f, args := name[:len(name)-2], name[len(name)-1]
		for range 3000 {
			if args == '1' {
				like(t, co(f, nu(any())))
			} else {
				like(t, co(f, nu(any()), nu(any())))
			}
		}
	}
}

// anyTerm is some term at most so deep, over the functions and some names beside them.
func anyTerm(r *rand.Rand, depth int) api.Term {
	k := r.Intn(40)
	switch {
	case k == 0:
		return va(1 + int64(r.Intn(3)))
	case k == 1:
		return at([]string{"a", "+", "abs", "pi", "[]", ""}[r.Intn(6)])
	case k < 15 || depth < 2:
		return nu(edges()[r.Intn(25)])
	}
	names := []string{"+", "-", "*", "//", "rem", "mod", "min", "max", `/\`, `\/`, "xor", ">>", "<<", "^", "**", "+", "-", "*", "abs", "sign", `\`, "-", "abs", "sign", `\`, "+", "foo", "/"}
	i := r.Intn(len(names))
	args := 2
	if i >= 18 {
		args = 1
	}
	if r.Intn(50) == 0 {
		args = 1 + r.Intn(8)
	}
	var all []api.Term
	for range args {
		all = append(all, anyTerm(r, depth-1))
	}
	return co(names[i], all...)
}

// P12.1: terms made at random.
func TestAnyTerms(t *testing.T) {
	r := rand.New(rand.NewSource(121))
	worths := 0
	for range 30000 {
		if like(t, anyTerm(r, 5)) {
			worths++
		}
	}
	if worths < 10000 || worths > 25000 {
		t.Errorf("%d have a worth", worths)
	}
}
