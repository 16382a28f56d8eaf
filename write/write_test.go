package write_test

import (
	"math"
	"math/rand"
	"regexp"
	"strconv"
	"strings"
	"testing"

	"pythia/api"
	"pythia/write"
)

// P11.1: the chapter's examples.
func TestExamples(t *testing.T) {
	written(t, co("f", va(1), at("a b"), list(va(3), nu(1), nu(-2)), co("+", nu(1), nu(2))), "f(_1,'a b',[1,-2|_3],+(1,2))")
	written(t, at(","), "','")
	written(t, co("[]", at("a")), "'[]'(a)")
	written(t, co(":-", at("a"), co(",", at("b"), co("\\+", at("c")))), ":-(a,','(b,\\+(c)))")
}

// P11.1: variables and numbers.
func TestNumbers(t *testing.T) {
	for _, n := range []int64{1, 2, 9, 10, 123, math.MaxInt64} {
		written(t, va(n), "_"+strconv.FormatInt(n, 10))
	}
	written(t, nu(0), "0")
	written(t, nu(1), "1")
	written(t, nu(-1), "-1")
	written(t, nu(100), "100")
	written(t, nu(-100), "-100")
	written(t, nu(math.MaxInt64), "9223372036854775807")
	written(t, nu(math.MinInt64), "-9223372036854775808")
	written(t, nu(math.MinInt64+1), "-9223372036854775807")
	written(t, co("-", nu(-1)), "-(-1)")
	written(t, co("f", nu(-1), va(7), nu(7)), "f(-1,_7,7)")
}

// P11.1: names that are one token, and those in quotes.
func TestNames(t *testing.T) {
	for _, name := range []string{"a", "z", "aZ_09", "foo", "is", "op", "!", ";", "+", "-", ":-", "\\+", "=..", "..", ".=", "**/", "*/", "\\", "/", "@#&$?~<>^", "[]", "{}", strings.Repeat("x", 64), strings.Repeat("+", 64)} {
		named(t, name, name)
	}
	for name, want := range map[string]string{
		"": `''`, "A": `'A'`, "_": `'_'`, "_1": `'_1'`, "1": `'1'`, "-1": `'-1'`, "1a": `'1a'`, ".": `'.'`, ",": `','`, "|": `'|'`, "(": `'('`, ")": `')'`, "[": `'['`, "]": `']'`, "{": `'{'`, "}": `'}'`, "%": `'%'`, "/*": `'/*'`, "+/*": `'+/*'`, "//*": `'//*'`, "/**/": `'/**/'`,
		"a b": `'a b'`, " ": `' '`, "a ": `'a '`, " a": `' a'`, "'": `'\''`, "''": `'\'\''`, "\\'": `'\\\''`, "a\\": `'a\\'`, "\\a": `'\\a'`, "\\n": `'\\n'`, "\n": `'\n'`, "\t": `'\t'`, "a\nb\tc": `'a\nb\tc'`, "\"": `'"'`, "a\"b": `'a"b'`, "it's": `'it\'s'`, "'a'": `'\'a\''`,
		"[ ]": `'[ ]'`, "[][]": `'[][]'`, "{ }": `'{ }'`, "[a]": `'[a]'`, "{a}": `'{a}'`, "a.": `'a.'`, "a. ": `'a. '`, "!!": `'!!'`, ";;": `';;'`, "a(b)": `'a(b)'`, "a-b": `'a-b'`, "~`": "'~`'", "0'a": `'0\'a'`,
		strings.Repeat("'", 64): "'" + strings.Repeat(`\'`, 64) + "'", strings.Repeat("\n", 64): "'" + strings.Repeat(`\n`, 64) + "'", strings.Repeat("X", 64): "'" + strings.Repeat("X", 64) + "'",
	} {
		named(t, name, want)
		if name == "." { // that is a list
			continue
		}
		written(t, co(name, at("a"), at(name)), want+"(a,"+want+")")
	}
}

// bare is a name that is one token, by chapter 8.
var bare = regexp.MustCompile(`^(?:[a-z][A-Za-z0-9_]*|[-+*/\\^<>=~:.?@#&$]+|!|;)$`)

// plainly is a name's text, by the chapter's words.
func plainly(name string) string {
	if bare.MatchString(name) && name != "." && !strings.Contains(name, "/*") {
		return name
	}
	return "'" + strings.NewReplacer("'", `\'`, `\`, `\\`, "\n", `\n`, "\t", `\t`).Replace(name) + "'"
}

// P11.1: each byte alone, and behind and ahead of others; those that no name may have.
func TestEachByte(t *testing.T) {
	for i := range 256 {
		c := string([]byte{byte(i)})
		for _, name := range []string{c, "a" + c, c + "a", "+" + c, c + "+", "a b" + c, c + "'" + c, "A" + c} {
			if i != 9 && i != 10 && (i < 32 || i > 126) {
				if got, e := write.Name(name); got != "" || e != api.ErrChar {
					t.Errorf("Name(%q) = %q, %d", name, got, e)
				}
				refused(t, strconv.Quote(name), at(name), api.ErrChar)
				continue
			}
			named(t, name, plainly(name))
			written(t, co(name, at("b")), plainly(name)+"(b)")
		}
	}
}

// P11.1: names made at random.
func TestAnyNames(t *testing.T) {
	r := rand.New(rand.NewSource(11))
	for range 50000 {
		if name := anyName(r); name != "[]" && name != "{}" {
			named(t, name, plainly(name))
		}
	}
}

// P11.1: "[]" and "{}" as atoms and as names of compound terms.
func TestBracketNames(t *testing.T) {
	named(t, "[]", "[]")
	named(t, "{}", "{}")
	written(t, co("[]", at("[]")), "'[]'([])")
	written(t, co("{}", at("{}")), "'{}'({})")
	written(t, co("[]", at("a"), at("b")), "'[]'(a,b)")
	written(t, co("{}", co(",", at("a"), at("b"))), "'{}'(','(a,b))")
	written(t, co("f", at("[]"), at("{}")), "f([],{})")
	written(t, co("f", co("[]", va(1)), co("{}", nu(1))), "f('[]'(_1),'{}'(1))")
}

// P11.1: lists that end in "[]" and lists that don't, and what is none.
func TestLists(t *testing.T) {
	a, b, none := at("a"), at("b"), at("[]")
	written(t, list(none, a), "[a]")
	written(t, list(none, a, b), "[a,b]")
	written(t, list(b, a), "[a|b]")
	written(t, list(va(2), a, b), "[a,b|_2]")
	written(t, list(nu(-1), nu(-2), nu(-3)), "[-2,-3|-1]")
	written(t, list(at("{}"), a), "[a|{}]")
	written(t, list(at(""), a), "[a|'']")
	written(t, list(at("[ ]"), a), "[a|'[ ]']")
	written(t, list(co("[]", a), b), "[b|'[]'(a)]")
	written(t, list(none, none), "[[]]")
	written(t, list(none, none, none), "[[],[]]")
	written(t, list(none, list(none, a), b), "[[a],b]")
	written(t, list(none, list(b, a), list(none, list(va(1), b))), "[[a|b],[[b|_1]]]")
	written(t, list(co("f", list(none, a)), a), "[a|f([a])]")
	written(t, co(".", a), "'.'(a)")
	written(t, co(".", a, b, none), "'.'(a,b,[])")
	written(t, list(co(".", a), b), "[b|'.'(a)]")
	written(t, list(co(".", a, b, none), b), "[b|'.'(a,b,[])]")
	written(t, list(at("."), at(".")), "['.'|'.']")
	written(t, co("f", list(none, a), list(b, a)), "f([a],[a|b])")
	written(t, list(none, co(",", a, b), co("|", a, b)), "[','(a,b),'|'(a,b)]")
	written(t, list(none, copies(99, a)...), "["+strings.TrimSuffix(strings.Repeat("a,", 99), ",")+"]")
	written(t, list(nu(1), copies(99, a)...), "["+strings.TrimSuffix(strings.Repeat("a,", 99), ",")+"|1]")
}

// P11.1: compound terms, as great as may be too.
func TestCompound(t *testing.T) {
	written(t, co("f", at("a")), "f(a)")
	written(t, co("f", copies(8, va(3))...), "f(_3,_3,_3,_3,_3,_3,_3,_3)")
	written(t, co("a b", co("X", at("Y"))), "'a b'('X'('Y'))")
	written(t, co("-", nu(1)), "-(1)")
	written(t, co("-", nu(1), nu(2)), "-(1,2)")
	written(t, co(",", at("a"), at("b")), "','(a,b)")
	written(t, co("", at("")), "''('')")
	written(t, co("!", at(";")), "!(;)")
	written(t, tower(at("a"), 99), strings.Repeat("s(", 99)+"a"+strings.Repeat(")", 99))
	written(t, doubled(nu(0), 2), "d(d(0,0),d(0,0))")
	small, e := write.Text(sized(2000, at("b")))
	if e != api.OK || strings.Count(small, "b")+strings.Count(small, "w(") != 2000 {
		t.Errorf("%.80q, %d", small, e)
	}
	written(t, sized(2000, at(strings.Repeat("\n", 64))), strings.ReplaceAll(small, "b", "'"+strings.Repeat(`\n`, 64)+"'"))
}

// P11.1: terms that aren't right.
func TestWrong(t *testing.T) {
	long := strings.Repeat("x", 65)
	for what, w := range map[string]api.Term{
		"the zero term": {}, "kind 5": {Kind: 5, Name: "a", Args: copies(1, at("a"))}, "kind below 0": {Kind: -1, Int: 1}, "variable 0": va(0), "variable below 0": va(-1), "a long atom": at(long), "a long name": co(long, at("a")),
		"no argument": co("f"), "nine arguments": co("f", copies(9, at("a"))...), "no argument of a list": co("."), "a wrong argument": co("f", at("a"), api.Term{}), "a wrong one within": co("f", at("a"), co("g", co("h", va(0)), at("b"))),
		"a wrong item": list(at("[]"), at("a"), api.Term{}), "a wrong end of a list": list(api.Term{}, at("a")), "too deep": tower(at("a"), 100), "a list that is too long": list(at("[]"), copies(100, at("a"))...), "too many symbols": sized(2001, at("a")),
		"far too deep": tower(at("a"), 1<<16), "within itself": inRing(), "2^60 leaves": doubled(at("a"), 60), "2^99 leaves": doubled(va(1), 99), "2^40000 leaves": doubled(at("a"), 40000), "a million arguments": co("f", make([]api.Term, 1000000)...),
	} {
		refused(t, what, w, api.ErrTerm)
		// Ahead of bytes that no name may have, wherever they stand.
		refused(t, what, co("\x00", w), api.ErrTerm)
		refused(t, what, co("f", at("\xff"), w, at("\xff")), api.ErrTerm)
	}
	refused(t, "a long name of other bytes", at(strings.Repeat("\x00", 65)), api.ErrTerm)
}

// P11.1: bytes that no name may have, wherever the name stands.
func TestOtherBytes(t *testing.T) {
	for _, c := range []string{"\x00", "\x08", "\x0b", "\r", "\x1f", "\x7f", "\x80", "\xff", "\u00e4", "a\x00", "\x00a", "'\x00", "+\xff"} {
		for _, w := range []api.Term{at(c), co(c, at("a")), co("f", at(c)), co("f", at("a"), va(1), at(c)), co("f", co(c, at("a")), at("b")), list(at("[]"), at("a"), at(c)), list(at(c), at("a")), list(at("[]"), co("f", co("g", at(c))), at("b")), tower(at(c), 99), co(c, copies(8, at("[]"))...)} {
			refused(t, strconv.Quote(c), w, api.ErrChar)
		}
	}
	// In a field that the kind doesn't name such bytes don't count.
	for _, w := range []api.Term{{Kind: api.Var, Int: 1, Name: "\x00"}, {Kind: api.Num, Int: 1, Name: "\x00"}, {Kind: api.Atom, Name: "a", Args: copies(1, at("\x00"))}} {
		if _, e := write.Text(w); e != api.OK {
			t.Errorf("%v: %d", w, e)
		}
	}
}

// P11.1: names that are too long, with bytes of all sorts.
func TestLongNames(t *testing.T) {
	for _, c := range []string{"x", "X", "+", " ", "'", "\n", "\x00", "\xff"} {
		for _, n := range []int{65, 66, 1000, 1 << 20} {
			if got, e := write.Name(strings.Repeat(c, n)); got != "" || e != api.ErrLong {
				t.Errorf("%d of %q: %.80q, %d", n, c, got, e)
			}
		}
	}
	if got, e := write.Name(strings.Repeat("x", 63) + "\x00"); got != "" || e != api.ErrChar {
		t.Errorf("%q, %d", got, e)
	}
}

// P11.1: terms aren't changed, the memory behind their lists neither; texts hang on nothing else.
func TestUnchanged(t *testing.T) {
	r := rand.New(rand.NewSource(12))
	for range 2000 {
		u := anyTerm(r, 5, anyName)
		room := roomy(u)
		text, e := write.Text(room)
		if e != api.OK || !unspoilt(room, u) {
			t.Fatalf("%q, %d: changed", text, e)
		}
		written(t, u, text)
	}
}
