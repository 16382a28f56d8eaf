package lex_test

import (
	"math"
	"slices"
	"strings"
	"testing"

	"pythia/api"
	"pythia/fault"
	"pythia/lex"
)

// xs are so many bytes x.
func xs(n int) string { return strings.Repeat("x", n) }

// Tokens as the text has them: the first one stands apart, others just where that is said.
func name(at int, text string) api.Token {
	return api.Token{Kind: api.TAtom, Text: text, At: at, Apart: at == 0}
}

func quoted(at int, text string) api.Token {
	return api.Token{Kind: api.TAtom, Text: text, At: at, Apart: at == 0, Quoted: true}
}

func variable(at int, text string) api.Token {
	return api.Token{Kind: api.TVar, Text: text, At: at, Apart: at == 0}
}

func number(at int, text string, n int64) api.Token {
	return api.Token{Kind: api.TInt, Text: text, Int: n, At: at, Apart: at == 0}
}

func punct(at int, text string) api.Token {
	return api.Token{Kind: api.TPunct, Text: text, At: at, Apart: at == 0}
}

func stop(at int) api.Token {
	return api.Token{Kind: api.TEnd, Text: ".", At: at, Apart: at == 0}
}

func apart(t api.Token) api.Token {
	t.Apart = true
	return t
}

// tokens fails, if a text's tokens aren't these.
func tokens(t *testing.T, text string, want ...api.Token) {
	t.Helper()
	got, err := lex.Tokens(text)
	if err != nil || !slices.Equal(got, want) {
		t.Fatalf("%.80q: %v, %v, not %v", text, got, err, want)
	}
}

// refused fails, if a text isn't answered this fault, and nothing else.
func refused(t *testing.T, text string, code api.Errno, at int) {
	t.Helper()
	got, err := lex.Tokens(text)
	if fault.Code(err) != code || fault.At(err) != at || len(got) != 0 || len(fault.Path(err)) != 0 {
		t.Fatalf("%.80q: %v, %v, not fault %d at %d", text, got, err, code, at)
	}
}

// P8.1: the chapter's examples.
func TestExamples(t *testing.T) {
	tokens(t, "foo(X,'a b').", name(0, "foo"), punct(3, "("), variable(4, "X"), punct(5, ","), quoted(6, "a b"), punct(11, ")"), stop(12))
	tokens(t, "a:-b", name(0, "a"), name(1, ":-"), name(3, "b"))
	tokens(t, "0'a", number(0, "0'a", 97))
	tokens(t, "x.y", name(0, "x"), name(1, "."), name(2, "y"))
	refused(t, "'a", api.ErrOpen, 0)
}

// P8.1: nothing but blanks and remarks is no token, and no error.
func TestNothing(t *testing.T) {
	for _, text := range []string{"", " ", "\t\n\r ", "%", "% a", "%\n", "%%\n%", "% /*\n", "/**/", "/***/", "/* % */", "/*\n*/\n", "/* /* */", "% '\n/*'*/"} {
		tokens(t, text)
	}
}

// P8.1: the signs, and no other bytes.
func TestSign(t *testing.T) {
	for i := range 256 {
		c := byte(i)
		want := slices.Contains([]byte("+-*/\\^<>=~:.?@#&$"), c)
		if lex.Sign(c) != want {
			t.Errorf("Sign(%q) = %v", c, !want)
		}
	}
}

// P8.1: each byte alone, and ahead of another token.
func TestEachByte(t *testing.T) {
	for i := range 256 {
		c := string([]byte{byte(i)})
		switch {
		case strings.Contains("\t\n\r ", c):
			tokens(t, c+"(", apart(punct(1, "(")))
		case c == "%":
			tokens(t, c+"(")
		case strings.Contains("abcdefghijklmnopqrstuvwxyz!;", c), c != "." && lex.Sign(byte(i)):
			tokens(t, c, name(0, c))
			tokens(t, c+"(", name(0, c), punct(1, "("))
		case strings.Contains("ABCDEFGHIJKLMNOPQRSTUVWXYZ_", c):
			tokens(t, c, variable(0, c))
			tokens(t, c+"(", variable(0, c), punct(1, "("))
		case strings.Contains("0123456789", c):
			tokens(t, c, number(0, c, int64(i-'0')))
			tokens(t, c+"(", number(0, c, int64(i-'0')), punct(1, "("))
		case strings.Contains("()[]{},|", c):
			tokens(t, c, punct(0, c))
			tokens(t, c+"(", punct(0, c), punct(1, "("))
		case c == ".":
			tokens(t, c, stop(0))
			tokens(t, c+"(", name(0, c), punct(1, "("))
		case c == "'":
			refused(t, c, api.ErrOpen, 0)
			refused(t, c+"(", api.ErrOpen, 0)
		default:
			refused(t, c, api.ErrChar, 0)
			refused(t, "( "+c+"(", api.ErrChar, 2)
		}
	}
}

// P8.1: which letters are in one name.
func TestLetters(t *testing.T) {
	all := "azAZ09_"
	tokens(t, "a"+all, name(0, "a"+all))
	tokens(t, "A"+all, variable(0, "A"+all))
	tokens(t, "_"+all, variable(0, "_"+all))
	tokens(t, "__", variable(0, "__"))
	tokens(t, "a'b'", name(0, "a"), quoted(1, "b"))
	tokens(t, "a!b;c", name(0, "a"), name(1, "!"), name(2, "b"), name(3, ";"), name(4, "c"))
	tokens(t, "!!;;", name(0, "!"), name(1, "!"), name(2, ";"), name(3, ";"))
	tokens(t, "12ab", number(0, "12", 12), name(2, "ab"))
	tokens(t, "1X2_3", number(0, "1", 1), variable(1, "X2_3"))
	tokens(t, "-1", name(0, "-"), number(1, "1", 1))
	tokens(t, "1.5", number(0, "1", 1), name(1, "."), number(2, "5", 5))
	refused(t, "a\u00e4", api.ErrChar, 1)
}

// P8.1: 0' with each byte, with a doubled quote, and with a \ and each byte.
func TestBytesAsNumbers(t *testing.T) {
	for i := range 256 {
		c := string([]byte{byte(i)})
		text := "0'" + c
		switch {
		case c == "'":
			tokens(t, text+c, number(0, "0'''", '\''))
			tokens(t, text+c+c+c, number(0, "0'''", '\''), quoted(4, ""))
			refused(t, text, api.ErrOpen, 0)
			refused(t, "a "+text+" ", api.ErrChar, 4)
		case c == "\\":
			tokens(t, text+c, number(0, text+c, '\\'))
			refused(t, "a "+text, api.ErrOpen, 2)
		case i >= 32 && i <= 126:
			tokens(t, text, number(0, text, int64(i)))
			tokens(t, text+"a", number(0, text, int64(i)), name(3, "a"))
		default:
			refused(t, text, api.ErrChar, 2)
			refused(t, "a "+text+"a", api.ErrChar, 4)
		}
		text = "0'\\" + c
		if n := strings.Index("nt\\'\"", c); n >= 0 {
			tokens(t, text, number(0, text, []int64{10, 9, '\\', '\'', '"'}[n]))
			tokens(t, text+"a", number(0, text, []int64{10, 9, '\\', '\'', '"'}[n]), name(4, "a"))
		} else {
			refused(t, text, api.ErrEscape, 2)
		}
	}
	refused(t, "0'", api.ErrOpen, 0)
	refused(t, "a 0'", api.ErrOpen, 2)
	tokens(t, "0 'a'", number(0, "0", 0), apart(quoted(2, "a")))
	tokens(t, "00'a'", number(0, "00", 0), quoted(2, "a"))
	tokens(t, "10'a'", number(0, "10", 10), quoted(2, "a"))
	tokens(t, "0'a'b'", number(0, "0'a", 97), quoted(3, "b"))
	tokens(t, "0'%a", number(0, "0'%", 37), name(3, "a"))
}

// P8.1: digits, around the greatest int64 too.
func TestDigits(t *testing.T) {
	tokens(t, "0", number(0, "0", 0))
	tokens(t, "007", number(0, "007", 7))
	tokens(t, "9223372036854775806", number(0, "9223372036854775806", math.MaxInt64-1))
	tokens(t, "9223372036854775807", number(0, "9223372036854775807", math.MaxInt64))
	tokens(t, "09223372036854775807x", number(0, "09223372036854775807", math.MaxInt64), name(20, "x"))
	zeros := strings.Repeat("0", 1000)
	tokens(t, zeros+"1", number(0, zeros+"1", 1))
	for _, text := range []string{"9223372036854775808", "18446744073709551616", "99999999999999999999", zeros + "9223372036854775808", strings.Repeat("9", 1000)} {
		refused(t, text, api.ErrInt, 0)
		refused(t, "a, "+text+"b", api.ErrInt, 3)
		refused(t, text+" '", api.ErrInt, 0)
	}
	tokens(t, "-9223372036854775807", name(0, "-"), number(1, "9223372036854775807", math.MaxInt64))
	refused(t, "-9223372036854775808", api.ErrInt, 1)
}

// P8.1: names in quotes: doubled quotes, escapes, each byte.
func TestQuoted(t *testing.T) {
	for text, want := range map[string]string{
		`''`: ``, `'a'`: `a`, `''''`: `'`, `''''''`: `''`, `'a''b'`: `a'b`, `'''a'`: `'a`, `'a'''`: `a'`,
		`'\n\t\\\'\"'`: "\n\t\\'\"", `'\''`: `'`, `'\''''`: `''`, `'\\'`: `\`, `'\\n'`: `\n`,
		`'[]'`: `[]`, `'% /* . "'`: `% /* . "`, `'/*'`: `/*`,
	} {
		tokens(t, text, quoted(0, want))
		tokens(t, "a"+text+"a", name(0, "a"), quoted(1, want), name(1+len(text), "a"))
		tokens(t, text+" "+text, quoted(0, want), apart(quoted(1+len(text), want)))
		refused(t, "( "+text[:len(text)-1], api.ErrOpen, 2)
	}
	for i := range 256 {
		c := string([]byte{byte(i)})
		if i >= 32 && i <= 126 && c != "'" && c != "\\" {
			tokens(t, "'a"+c+"b'", quoted(0, "a"+c+"b"))
		} else if c != "'" && c != "\\" {
			refused(t, "+'a"+c+"b'", api.ErrChar, 3)
		}
		if !strings.Contains("nt\\'\"", c) {
			refused(t, "+'a\\"+c+"b'", api.ErrEscape, 3)
		}
	}
	for _, text := range []string{"'", "'a", "'''", "'a''", "'\\", "'a\\", "'\\'", "'a\\'", "'a b. "} {
		refused(t, text, api.ErrOpen, 0)
		refused(t, "a\n"+text, api.ErrOpen, 2)
	}
}

// P8.1: names as long as may be, and one byte longer.
func TestLong(t *testing.T) {
	signs := strings.Repeat("+-", 32)
	tokens(t, xs(64), name(0, xs(64)))
	tokens(t, "X"+xs(63), variable(0, "X"+xs(63)))
	tokens(t, signs, name(0, signs))
	tokens(t, "'"+xs(64)+"'", quoted(0, xs(64)))
	tokens(t, "'"+xs(61)+`\n''\''`, quoted(0, xs(61)+"\n''"))
	tokens(t, "'"+strings.Repeat("''", 64)+"'", quoted(0, strings.Repeat("'", 64)))
	tokens(t, "'"+strings.Repeat(`\t`, 64)+"'", quoted(0, strings.Repeat("\t", 64)))
	tokens(t, signs+"/*"+signs+"*/", name(0, signs))
	for _, text := range []string{
		xs(65), "X" + xs(64), signs + ".", signs + "..", "'" + xs(65) + "'", "'" + xs(62) + `\n''\''`,
		"'" + strings.Repeat("''", 65) + "'", "'" + strings.Repeat(`\t`, 65) + "'", xs(1000), "'" + xs(1000) + "'",
	} {
		refused(t, text, api.ErrLong, 0)
		refused(t, "1, "+text, api.ErrLong, 3)
		refused(t, text+"\x01", api.ErrLong, 0)
	}
}

// P8.1: what is a full stop.
func TestFullStop(t *testing.T) {
	tokens(t, ".", stop(0))
	tokens(t, "a.", name(0, "a"), stop(1))
	tokens(t, "a .", name(0, "a"), apart(stop(2)))
	tokens(t, "a. b", name(0, "a"), stop(1), apart(name(3, "b")))
	for _, c := range "\t\n\r " {
		tokens(t, "."+string(c)+"a", stop(0), apart(name(2, "a")))
	}
	tokens(t, "a.%b", name(0, "a"), stop(1))
	tokens(t, "a.%b\nc", name(0, "a"), stop(1), apart(name(5, "c")))
	tokens(t, ".a", name(0, "."), name(1, "a"))
	tokens(t, ".(", name(0, "."), punct(1, "("))
	tokens(t, ".'a'", name(0, "."), quoted(1, "a"))
	tokens(t, "./* */", name(0, "."))
	tokens(t, "a./**/ .", name(0, "a"), name(1, "."), apart(stop(7)))
	tokens(t, "..", name(0, ".."))
	tokens(t, ".. ", name(0, ".."))
	tokens(t, "a=. ", name(0, "a"), name(1, "=."))
	tokens(t, "a= .", name(0, "a"), name(1, "="), apart(stop(3)))
	tokens(t, ". .", stop(0), apart(stop(2)))
	tokens(t, "'.'.", quoted(0, "."), stop(3))
	refused(t, ".\x0b", api.ErrChar, 1)
	refused(t, ".\x00", api.ErrChar, 1)
}

// P8.1: remarks, also those that open within signs.
func TestRemarks(t *testing.T) {
	tokens(t, "+/*a*/", name(0, "+"))
	tokens(t, "+/*a*/b", name(0, "+"), apart(name(6, "b")))
	tokens(t, "//*a*/b", name(0, "/"), apart(name(6, "b")))
	tokens(t, "*/*a*/*", name(0, "*"), apart(name(6, "*")))
	tokens(t, "**/", name(0, "**/"))
	tokens(t, "+*/", name(0, "+*/"))
	tokens(t, "/ *", name(0, "/"), apart(name(2, "*")))
	tokens(t, "/**/a", apart(name(4, "a")))
	tokens(t, "/***/*", apart(name(5, "*")))
	tokens(t, "/*/*/a", apart(name(5, "a")))
	tokens(t, "a/**/(", name(0, "a"), apart(punct(5, "(")))
	tokens(t, "a%b", name(0, "a"))
	tokens(t, "a%b\n(", name(0, "a"), apart(punct(4, "(")))
	tokens(t, "a%b\r(", name(0, "a"))
	tokens(t, "+%/*\n+", name(0, "+"), apart(name(5, "+")))
	tokens(t, "%\xff\x00\n/*\xff\x00*/a", apart(name(10, "a")))
	for _, text := range []string{"/*", "/* ", "/*/", "/**", "/* *", "/* * /", "/*'*'/", "/*%\n"} {
		refused(t, text, api.ErrOpen, 0)
		refused(t, "a"+text, api.ErrOpen, 1)
		refused(t, "*"+text, api.ErrOpen, 1)
		refused(t, "/**/"+text, api.ErrOpen, 4)
	}
}

// P8.1: what stands apart.
func TestApart(t *testing.T) {
	tokens(t, "f(", name(0, "f"), punct(1, "("))
	tokens(t, "f (", name(0, "f"), apart(punct(2, "(")))
	tokens(t, " f", apart(name(1, "f")))
	tokens(t, "a b\tc\nd\re", name(0, "a"), apart(name(2, "b")), apart(name(4, "c")), apart(name(6, "d")), apart(name(8, "e")))
	tokens(t, "X'a'Y", variable(0, "X"), quoted(1, "a"), variable(4, "Y"))
	tokens(t, "a. b.c", name(0, "a"), stop(1), apart(name(3, "b")), name(4, "."), name(5, "c"))
}

// P8.1: texts as long as may be, and one byte longer, which is told ahead of all else.
func TestLongTexts(t *testing.T) {
	blanks := strings.Repeat(" ", api.MaxText)
	tokens(t, blanks)
	tokens(t, blanks[1:]+"a", apart(name(api.MaxText-1, "a")))
	tokens(t, "a%"+blanks[2:], name(0, "a"))
	got, err := lex.Tokens(strings.Repeat("(", api.MaxText))
	if err != nil || len(got) != api.MaxText || got[len(got)-1] != punct(api.MaxText-1, "(") {
		t.Errorf("%d tokens, %v", len(got), err)
	}
	for _, text := range []string{blanks + " ", "a" + blanks, "%" + blanks, "'" + blanks, "\x00" + blanks, "/*" + blanks, blanks + blanks, strings.Repeat("9", 1<<20)} {
		refused(t, text, api.ErrLong, 0)
	}
}

// P8.1: of two wrong places the first one that is come to is told.
func TestFirstWrong(t *testing.T) {
	long, great := xs(65), "9223372036854775808"
	refused(t, `a " '`, api.ErrChar, 2)
	refused(t, `a ' "`, api.ErrOpen, 2)
	refused(t, `a /* "`, api.ErrOpen, 2)
	refused(t, `" /*`, api.ErrChar, 0)
	refused(t, "'\\q\x01", api.ErrEscape, 1)
	refused(t, "'\x01\\q", api.ErrChar, 1)
	refused(t, "'\\\x01'", api.ErrEscape, 1)
	refused(t, "0'\\\x01", api.ErrEscape, 2)
	refused(t, "'"+long+"\x01'", api.ErrChar, 66)
	refused(t, "'"+long+"\\q'", api.ErrEscape, 66)
	refused(t, "'"+long, api.ErrOpen, 0)
	refused(t, "'"+long+"\\", api.ErrOpen, 0)
	refused(t, "'"+long+"''", api.ErrOpen, 0)
	refused(t, long+" "+great, api.ErrLong, 0)
	refused(t, great+long, api.ErrInt, 0)
	refused(t, great+" 0'", api.ErrInt, 0)
	refused(t, "0' "+great, api.ErrInt, 3)
	refused(t, "a"+great+" "+great, api.ErrInt, 21)
	refused(t, "+"+strings.Repeat("/", 64)+"*", api.ErrOpen, 64)
	refused(t, "++"+strings.Repeat("/", 64)+"*", api.ErrLong, 0)
}

// P8.1: which names are one token.
func TestBare(t *testing.T) {
	for _, s := range []string{"a", "aB_9", "[a", "!", ";", "+", "=..", "..", ".+", "**/", "+*/", "\\", xs(64), strings.Repeat("+", 64)} {
		if lex.Bare(s) != (s != "[a") {
			t.Errorf("Bare(%q) = %v", s, !lex.Bare(s))
		}
	}
	for _, s := range []string{
		"", " ", "a ", " a", "a%", "%", "/**/", "a/**/", "/**/a", "a b", "A", "_", "_a", "1", "1a", "0'a", ".", ". ", ".%", "./**/",
		"(", ")", "[", "]", "{", "}", ",", "|", "[]", "{}", "()", "!!", ";;", "!a", "a.", "a.b", "a+", "+a", "+/*", "/*", "/*/",
		"'a'", "''", "''''", "'", "'a", "a'", "\"", "a\n", "\x00", "\xff", "\u00e4", xs(65), strings.Repeat("+", 65), xs(api.MaxText + 1), xs(1 << 20),
	} {
		if lex.Bare(s) {
			t.Errorf("Bare(%.80q)", s)
		}
	}
	for i := range 256 {
		c := string([]byte{byte(i)})
		want := strings.Contains("abcdefghijklmnopqrstuvwxyz!;+-*/\\^<>=~:?@#&$", c)
		if lex.Bare(c) != want {
			t.Errorf("Bare(%q) = %v", c, !want)
		}
	}
}

// An answer stays while others are made, and changes with none.
func TestAnswersAreNew(t *testing.T) {
	const text = "foo(X, 'a b')."
	first, _ := lex.Tokens(text)
	second, _ := lex.Tokens(text)
	clear(second[:cap(second)])
	third, _ := lex.Tokens(text)
	if !slices.Equal(first, third) || len(first) != 7 || first[0] != name(0, "foo") {
		t.Errorf("%v, %v", first, third)
	}
}
