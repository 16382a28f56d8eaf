package read_test

import (
	"strings"
	"testing"

	"pythia/api"
	"pythia/ops"
	"pythia/read"
)

// nests are ways in which a term stands within others: what begins, how many terms it begins, and what ends around them.
var nests = []struct {
	open  string
	terms int
	close string
}{
	{"(", 1, ")"}, {"[", 1, "]"}, {"{", 1, "}"}, {"f(", 1, ")"}, {"'f'( ", 1, " )"}, {"f(a,", 1, ",b)"}, {"[a|", 1, "]"}, {"- ", 1, ""}, {"\\ ", 1, ""}, {"a^", 1, ""}, {"a,", 1, ""},
	{"f([", 2, "])"}, {"{(", 2, ")}"}, {"[- ", 2, "]"}, {"(a = ", 2, ")"}, {"1 - (a, ", 3, ")"},
}

// P10.1: terms within as many others as may be, and within one more, of each way to be within.
func TestDeep(t *testing.T) {
	for _, c := range nests {
		open, n := deepest(c.open, c.terms)
		close := strings.Repeat(")", api.MaxDepth-1-n*c.terms) + strings.Repeat(c.close, n)
		if got, err := read.All(ops.New(), open+"b"+close+" ."); err != nil || len(got) != 1 {
			t.Errorf("%q: %v", c.open, err)
		}
	}
}

// deepest is what begins as many terms in one another as may be, but for one; and how often it has what begins some of them.
func deepest(open string, terms int) (string, int) {
	n := (api.MaxDepth - 1) / terms
	return strings.Repeat(open, n) + strings.Repeat("(", api.MaxDepth-1-n*terms), n
}

// P10.1: a term that would begin within one too many is told at its first token, whatever that is.
func TestTooDeep(t *testing.T) {
	firsts := []string{"b", "'b'", "b(", "X", "_", "1", "-1", "- a", "-", "- ", "=", "(", "[", "{", "[]", "{}", ")", "]", "}", ",", "|", ". ", ".", "b. a b.", "(a b"}
	for _, c := range nests {
		open, _ := deepest(c.open, c.terms)
		for _, first := range firsts {
			refused(t, open+"("+first, api.ErrDeep, len(open)+1)
			refused(t, "a. "+open+" ( "+first, api.ErrDeep, len(open)+6)
		}
		// No term begins where the text is over.
		refused(t, open+"(", api.ErrEnd, len(open)+1)
		refused(t, open+"( % b", api.ErrEnd, len(open)+5)
		refused(t, open, api.ErrEnd, len(open))
	}
	open, _ := deepest("(", 1)
	for _, last := range []string{"(", "[", "{", "f(", "'f'(", "- ", "\\+ ", "a = ", "a, ", "-1 - ", "[] ; "} {
		for _, first := range firsts {
			if !isAlone(last, first) {
				refused(t, open+last+first, api.ErrDeep, len(open)+len(last))
			}
		}
		refused(t, open+last, api.ErrEnd, len(open)+len(last))
	}
}

// isAlone tells whether no term would begin with first behind last.
func isAlone(last, first string) bool {
	switch last {
	case "[":
		return strings.HasPrefix(first, "]")
	case "{":
		return strings.HasPrefix(first, "}")
	case "- ", "\\+ ":
		return strings.Contains(")]},|.=", first[:1])
	}
	return false
}

// P10.1: what begins no term is within none.
func TestNotDeeper(t *testing.T) {
	open, n := deepest("(", 1)
	close := strings.Repeat(")", n)
	for text, want := range map[string]string{"[]": "[]", "{}": "{}", "[ ]": "[]", "-": "-", "- ": "-", "-1": "-1", "\\+": "\\+", "a": "a", "X": "X1", "!": "!", "'-'": "-"} {
		terms(t, ops.New(), open+text+close+".", want)
	}
	// The depth is taken back behind each term.
	terms(t, ops.New(), "["+open[1:]+"a"+close[1:]+"|"+open[1:]+"b"+close[1:]+"].", ".(a b)")
	terms(t, ops.New(), "f(a,"+open[1:]+"a"+close[1:]+","+open[1:]+"b"+close[1:]+").", "f(a a b)")
	terms(t, ops.New(), open[1:]+"a"+close[1:]+" = "+open[1:]+"b"+close[1:]+".", "=(a b)")
	terms(t, ops.New(), strings.Repeat(open+"a"+close+". ", 5), "a", "a", "a", "a", "a")
	if got, err := read.All(ops.New(), strings.Repeat("- ", 100)+"."); err != nil || len(got) != 1 {
		t.Errorf("100 signs: %v", err)
	}
	refused(t, open+"[]"+close[1:]+".", api.ErrSyntax, 99+2+98)
	refused(t, open+"- ]", api.ErrSyntax, 99+2)
}

// commas are so many a with commas between.
func commas(n int) string { return strings.TrimSuffix(strings.Repeat("a,", n), ",") }

// sized is the text of a term with so many symbols, and its depth is small.
func sized(size int) string {
	if size == 1 {
		return "a"
	}
	var args []string
	rest := size - 1
	for n := min(rest, 8); n > 0; n-- {
		args = append(args, sized(rest/n))
		rest -= rest / n
	}
	return "f(" + strings.Join(args, ",") + ")"
}

// P10.1: terms that are as great as may be, and greater ones, told at their first token.
func TestTooGreat(t *testing.T) {
	for _, c := range []struct{ right, more string }{
		{"f(" + commas(8) + ")", "f(" + commas(9) + ")"},
		{"[" + commas(99) + "]", "[" + commas(100) + "]"},
		{"[" + commas(99) + "|X]", "[" + commas(100) + "|X]"},
		{"[[" + commas(98) + "]]", "[[" + commas(99) + "]]"},
		{"a" + strings.Repeat(" - a", 99), "a" + strings.Repeat(" - a", 100)},
		{"a" + strings.Repeat(" - a", 99), "a" + strings.Repeat(" - a", 2500)},
		{sized(2000), sized(2001)},
		{"{" + sized(1999) + "}", "{" + sized(2000) + "}"},
		{"[" + sized(998) + ",a|" + sized(999) + "]", "[" + sized(999) + ",a|" + sized(999) + "]"},
		{"f(" + sized(1000) + ", X, - " + sized(997) + ")", "f(" + sized(1000) + ", X, - " + sized(998) + ")"},
		{"- " + strings.Repeat("f(", 96) + "[a,a]" + strings.Repeat(")", 96), "- " + strings.Repeat("f(", 96) + "[a,a,a]" + strings.Repeat(")", 96)},
		{"','(" + commas(2) + ")", "','(" + commas(300) + ")"},
	} {
		for _, around := range [][2]string{{"", " ."}, {"(", ")."}, {" % a\n", " % a\n."}} {
			got, err := read.All(ops.New(), around[0]+c.right+around[1])
			if err != nil || len(got) != 1 {
				t.Errorf("%.40q: %v", c.right, err)
			}
			place := strings.LastIndex(around[0], "\n") + 1
			refused(t, around[0]+c.more+around[1], api.ErrLong, place)
			refused(t, "a. "+around[0]+c.more+around[1]+" b. ", api.ErrLong, place+3)
		}
		refused(t, "g("+c.more+").", api.ErrLong, 0)
		refused(t, "a = "+c.more+" .", api.ErrLong, 0)
	}
}

// P10.1: of two errors the first one in the text's order is told; that a term isn't right is seen only when it is whole.
func TestFirstError(t *testing.T) {
	many, deep, refusal := "f("+commas(9)+")", strings.Repeat("(", 101), ":- op(700, xfx, ',')."
	refused(t, many+". a b.", api.ErrLong, 0)
	refused(t, many+". f(", api.ErrLong, 0)
	refused(t, "a b. "+many+".", api.ErrSyntax, 2)
	refused(t, "g("+many+", ).", api.ErrSyntax, 24)
	refused(t, "["+many+" | ", api.ErrEnd, 24)
	refused(t, "- "+many+" = ]", api.ErrSyntax, 25)
	refused(t, many+" = "+deep, api.ErrDeep, 20+3+99)
	refused(t, deep+many+".", api.ErrDeep, 100)
	refused(t, "a b. "+deep, api.ErrSyntax, 2)
	refused(t, "(a b "+deep, api.ErrSyntax, 3)
	refused(t, deep+". a b.", api.ErrDeep, 100)
	refused(t, "a. "+deep+". a b.", api.ErrDeep, 103)
	refused(t, refusal+" a b.", api.ErrOp, 0)
	refused(t, refusal+" f(", api.ErrOp, 0)
	refused(t, refusal+" "+many+".", api.ErrOp, 0)
	refused(t, "a b. "+refusal, api.ErrSyntax, 2)
	refused(t, many+". "+refusal, api.ErrLong, 0)
	refused(t, "a. "+refusal+" "+refusal, api.ErrOp, 3)
	refused(t, "a b c. d e.", api.ErrSyntax, 2)
	refused(t, "f(] g(", api.ErrSyntax, 2)
	refused(t, "[a b", api.ErrSyntax, 3)
	refused(t, "[a, b", api.ErrEnd, 5)
}
