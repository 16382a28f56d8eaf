package lex_test

import (
	"math/big"
	"math/rand"
	"regexp"
	"slices"
	"strings"
	"testing"

	"pythia/api"
	"pythia/fault"
	"pythia/lex"
)

// The forms of the chapter as expressions, in its order.
var (
	gapForm    = regexp.MustCompile(`^(?:[\t\n\r ]|%[^\n]*|(?s:/\*.*?\*/))*`)
	nameForm   = regexp.MustCompile(`^[a-z][A-Za-z0-9_]*`)
	varForm    = regexp.MustCompile(`^[A-Z_][A-Za-z0-9_]*`)
	byteForm   = regexp.MustCompile(`^0'(?:''|\\[nt\\'"]|[ -&(-\[\]-~])`)
	digitForm  = regexp.MustCompile(`^[0-9]+`)
	punctForm  = regexp.MustCompile(`^[()\[\]{},|]`)
	singleForm = regexp.MustCompile(`^[!;]`)
	quoteForm  = regexp.MustCompile(`^'(?:''|\\[nt\\'"]|[ -&(-\[\]-~])*`)
	stopForm   = regexp.MustCompile(`^\.([\t\n\r %]|$)`)
	signForm   = regexp.MustCompile(`^[-+*/\\^<>=~:.?@#&$]+`)
	unquote    = strings.NewReplacer(`''`, `'`, `\n`, "\n", `\t`, "\t", `\\`, `\`, `\'`, `'`, `\"`, `"`)
)

// part is a token, and where it ends.
type part struct {
	token api.Token
	end   int
}

// model is what a text is made of, by the chapter's forms; or what is wrong with it, and where.
func model(text string) ([]part, api.Errno, int) {
	if len(text) > api.MaxText {
		return nil, api.ErrLong, 0
	}
	var parts []part
	at := 0
	for {
		from := at + len(gapForm.FindString(text[at:]))
		if from == len(text) {
			return parts, api.OK, 0
		}
		token, size, code, off := modelToken(text[from:])
		if code != api.OK {
			return nil, code, from + off
		}
		token.At, token.Apart = from, from > at || len(parts) == 0
		at = from + size
		parts = append(parts, part{token, at})
	}
}

// modelToken is the token that a text begins with, and how many bytes it has; or what is wrong with it, and where.
func modelToken(text string) (api.Token, int, api.Errno, int) {
	if strings.HasPrefix(text, "/*") {
		return api.Token{}, 0, api.ErrOpen, 0
	}
	if s := nameForm.FindString(text); s != "" {
		return modelName(api.TAtom, s)
	}
	if s := varForm.FindString(text); s != "" {
		return modelName(api.TVar, s)
	}
	if strings.HasPrefix(text, "0'") {
		s := byteForm.FindString(text)
		if s == "" {
			code, off := modelWrong(text, 2)
			return api.Token{}, 0, code, off
		}
		return api.Token{Kind: api.TInt, Text: s, Int: int64(unquote.Replace(s[2:])[0])}, len(s), api.OK, 0
	}
	if s := digitForm.FindString(text); s != "" {
		n, _ := new(big.Int).SetString(s, 10)
		if !n.IsInt64() {
			return api.Token{}, 0, api.ErrInt, 0
		}
		return api.Token{Kind: api.TInt, Text: s, Int: n.Int64()}, len(s), api.OK, 0
	}
	if s := punctForm.FindString(text); s != "" {
		return api.Token{Kind: api.TPunct, Text: s}, 1, api.OK, 0
	}
	if s := singleForm.FindString(text); s != "" {
		return modelName(api.TAtom, s)
	}
	if s := quoteForm.FindString(text); s != "" {
		if !strings.HasPrefix(text[len(s):], "'") {
			code, off := modelWrong(text, len(s))
			return api.Token{}, 0, code, off
		}
		token, _, code, _ := modelName(api.TAtom, unquote.Replace(s[1:]))
		token.Quoted = code == api.OK
		return token, len(s) + 1, code, 0
	}
	if stopForm.MatchString(text) {
		return api.Token{Kind: api.TEnd, Text: "."}, 1, api.OK, 0
	}
	if s := signForm.FindString(text); s != "" {
		s, _, _ = strings.Cut(s, "/*")
		return modelName(api.TAtom, s)
	}
	return api.Token{}, 0, api.ErrChar, 0
}

func modelName(kind int, s string) (api.Token, int, api.Errno, int) {
	if len(s) > api.MaxName {
		return api.Token{}, 0, api.ErrLong, 0
	}
	return api.Token{Kind: kind, Text: s}, len(s), api.OK, 0
}

// modelWrong is what is wrong at a place in quotes at which nothing that may stand in them does, and where.
func modelWrong(text string, at int) (api.Errno, int) {
	switch rest := text[at:]; {
	case rest == "", rest == `\`, rest == "'":
		return api.ErrOpen, 0
	case rest[0] == '\\':
		return api.ErrEscape, at
	}
	return api.ErrChar, at
}

// asModel fails, if a text isn't answered as the model says; the model's parts.
func asModel(t *testing.T, text string) []part {
	t.Helper()
	parts, code, at := model(text)
	got, err := lex.Tokens(text)
	if fault.Code(err) != code || fault.At(err) != at {
		t.Fatalf("%.200q: %v, not fault %d at %d", text, err, code, at)
	}
	if !slices.EqualFunc(got, parts, func(g api.Token, p part) bool { return g == p.token }) {
		t.Fatalf("%.200q: %v, not %v", text, got, parts)
	}
	bare := len(parts) == 1 && parts[0].token == api.Token{Kind: api.TAtom, Text: text, Apart: true}
	if lex.Bare(text) != bare {
		t.Fatalf("Bare(%q) = %v", text, !bare)
	}
	return parts
}

// eachText calls f on each text of so many of the bytes.
func eachText(bytes string, size int, f func(string)) {
	text := make([]byte, size)
	var fill func(i int)
	fill = func(i int) {
		if i == size {
			f(string(text))
			return
		}
		for j := range len(bytes) {
			text[i] = bytes[j]
			fill(i + 1)
		}
	}
	fill(0)
}

// P8.1: all short texts over bytes of each sort.
func TestShortTexts(t *testing.T) {
	for size := range 5 {
		eachText("aX0'\\n%/*.+(!\n \x01\"", size, func(s string) { asModel(t, s) })
	}
	eachText("0'\\n a", 6, func(s string) { asModel(t, s) })
	eachText("/*.%+\na", 6, func(s string) { asModel(t, s) })
}

// pieces are what texts are made of at random.
var pieces = []string{
	"a", "foo", "n", "X", "_", "_Y1", "0", "12", "007", "9223372036854775807", "9223372036854775808", "0'a", "0''", "0'''", "0'\\n", "0'\\q", "0'",
	"'a b'", "''", "'", "'a''b'", "'\\n'", "'\\q'", "\\", "'\t'", "\"", "`", "\x00", "\x7f", "\u00e4", "\xff",
	"(", ")", "[", "]", "{", "}", ",", "|", "!", ";", ".", ". ", ".\n", ":-", "=..", "+", "-", "*", "/", "//", "**", "/*", "*/", "/* x */", "%", "% x\n", "%\n",
	" ", "\n", "\t", "\r", "\x0b", xs(40), "X" + xs(63), strings.Repeat("+", 40), "'" + xs(64), "'" + strings.Repeat("''", 63) + "'",
}

// anyText is a text of some pieces.
func anyText(r *rand.Rand, from []string, most int) string {
	var b strings.Builder
	for range r.Intn(most + 1) {
		b.WriteString(from[r.Intn(len(from))])
	}
	return b.String()
}

// rightPieces are the pieces that are right alone, and short.
func rightPieces() []string {
	return slices.DeleteFunc(slices.Clone(pieces), func(s string) bool {
		_, err := lex.Tokens(s)
		return err != nil || len(s) >= 40 || s == "%"
	})
}

// eachRightText calls f on texts made at random that are right, with their parts.
func eachRightText(t *testing.T, r *rand.Rand, f func(text string, parts []part)) {
	right := 0
	for range 30000 {
		text := anyText(r, rightPieces(), 16)
		if _, code, _ := model(text); code == api.OK {
			right++
			f(text, asModel(t, text))
		}
	}
	if right < 10000 {
		t.Errorf("%d texts are right", right)
	}
}

// P8.1: texts made at random.
func TestAnyTexts(t *testing.T) {
	r := rand.New(rand.NewSource(8))
	for range 40000 {
		asModel(t, anyText(r, pieces, 8))
	}
	plain := slices.DeleteFunc(rightPieces(), func(s string) bool { return strings.ContainsAny(s, "'/*") })
	for range 50 {
		asModel(t, anyText(r, plain, 12000))
	}
}

// withGaps is a text with blanks and remarks put between its tokens.
func withGaps(r *rand.Rand, text string, parts []part) string {
	gaps := []string{"", " ", "\n", " /* x. */", "\t% 'x\n", "/*+*/", "\r\n", "%\n"}
	var b strings.Builder
	at := 0
	for _, p := range parts {
		gap := gaps[r.Intn(len(gaps))]
		if at > 0 && text[at-1] == '.' && gap == "/*+*/" {
			gap = "" // behind a full stop no remark but one with a % may open
		}
		b.WriteString(gap)
		b.WriteString(text[at:p.end])
		at = p.end
	}
	return b.String() + text[at:]
}

// isNameStop tells whether a token is the name "." without quotes.
func isNameStop(g api.Token) bool { return g.Kind == api.TAtom && g.Text == "." && !g.Quoted }

// P8.2: places rise, texts stand at their places, and what stands between tokens changes only where they stand.
func TestBetween(t *testing.T) {
	r := rand.New(rand.NewSource(9))
	eachRightText(t, r, func(text string, parts []part) {
		got, _ := lex.Tokens(text)
		for i, g := range got {
			if i > 0 && got[i-1].At >= g.At {
				t.Fatalf("%q: places don't rise", text)
			}
			if !g.Quoted && !strings.HasPrefix(text[g.At:], g.Text) {
				t.Fatalf("%q: no %q at %d", text, g.Text, g.At)
			}
		}
		if slices.ContainsFunc(got, isNameStop) {
			return
		}
		wide := withGaps(r, text, parts)
		more, err := lex.Tokens(wide)
		same := func(a, b api.Token) bool {
			a.At, a.Apart, b.At, b.Apart = 0, false, 0, false
			return a == b
		}
		if err != nil || !slices.EqualFunc(got, more, same) {
			t.Fatalf("%q: %v; %q: %v, %v", text, got, wide, more, err)
		}
		asModel(t, wide)
	})
}

// P8.3: what stands at a token's place is that one token, alone too.
func TestAlone(t *testing.T) {
	r := rand.New(rand.NewSource(10))
	eachRightText(t, r, func(text string, parts []part) {
		for _, p := range parts {
			want := p.token
			want.At, want.Apart = 0, true
			if isNameStop(want) {
				want.Kind = api.TEnd
			}
			alone := text[p.token.At:p.end]
			tokens(t, alone, want)
			if !want.Quoted {
				tokens(t, want.Text, want)
			}
			if lex.Bare(alone) != (want.Kind == api.TAtom && !want.Quoted) {
				t.Fatalf("Bare(%q)", alone)
			}
		}
	})
}
