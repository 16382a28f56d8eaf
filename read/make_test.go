package read_test

import (
	"regexp"
	"slices"
	"strconv"
	"strings"
	"testing"

	"pythia/api"
	"pythia/fault"
	"pythia/ops"
	"pythia/read"
)

// va, nu, at and co make a variable, a number, an atom, and a compound term.
func va(n int64) api.Term     { return api.Term{Kind: api.Var, Int: n} }
func nu(n int64) api.Term     { return api.Term{Kind: api.Num, Int: n} }
func at(name string) api.Term { return api.Term{Kind: api.Atom, Name: name} }
func co(name string, args ...api.Term) api.Term {
	return api.Term{Kind: api.Comp, Name: name, Args: args}
}

// tidy tells whether a term is just the other one, with nothing in the fields that its kinds don't name.
func tidy(got, want api.Term) bool {
	return got.Kind == want.Kind && got.Name == want.Name && got.Int == want.Int && slices.EqualFunc(got.Args, want.Args, tidy)
}

// same tells whether two terms that were read are told alike, in all that is told of them.
func same(got, want api.Read) bool {
	return got.At == want.At && tidy(got.Term, want.Term) && slices.Equal(got.Names, want.Names)
}

// plainName is what show doesn't put in quotes.
var plainName = regexp.MustCompile(`^([a-z][a-z0-9]*|[-+*/\\^<>=~:.?@#&$]+|\[\]|\{\}|!|;)$`)

// name is a name as show has it.
func name(s string) string {
	if plainName.MatchString(s) {
		return s
	}
	return strconv.Quote(s)
}

// show is a term as a text, with all compound terms alike.
func show(t api.Term) string {
	switch t.Kind {
	case api.Var:
		return "X" + strconv.FormatInt(t.Int, 10)
	case api.Num:
		return strconv.FormatInt(t.Int, 10)
	case api.Atom:
		return name(t.Name)
	case api.Comp:
		var args []string
		for _, arg := range t.Args {
			args = append(args, show(arg))
		}
		return name(t.Name) + "(" + strings.Join(args, " ") + ")"
	}
	return "?" + strconv.Itoa(t.Kind)
}

// told is what was read, as a text.
func told(rs []api.Read) string {
	var all []string
	for _, r := range rs {
		all = append(all, strconv.Itoa(r.At)+": "+show(r.Term)+" "+strings.Join(r.Names, " "))
	}
	return strings.Join(all, "; ")
}

// with is a new table with some operators more.
func with(t *testing.T, more ...api.Op) *ops.Table {
	t.Helper()
	table := ops.New()
	for _, o := range more {
		if e := table.Add(o); e != api.OK {
			t.Fatalf("Add(%v) = %d", o, e)
		}
	}
	return table
}

func op(name string, kind, prec int) api.Op { return api.Op{Name: name, Type: kind, Prec: prec} }

// terms fails, if a text isn't read as these terms over a table.
func terms(t *testing.T, table *ops.Table, text string, want ...string) []api.Read {
	t.Helper()
	rs, err := read.All(table, text)
	var got []string
	for _, r := range rs {
		got = append(got, show(r.Term))
	}
	if err != nil || !slices.Equal(got, want) {
		t.Fatalf("%.80q: %q, %v, not %q", text, got, err, want)
	}
	return rs
}

// reads fails, if a text isn't read as just this, over the operators that there always are.
func reads(t *testing.T, text string, want ...api.Read) {
	t.Helper()
	got, err := read.All(ops.New(), text)
	if err != nil || !slices.EqualFunc(got, want, same) {
		t.Fatalf("%.80q: %s, %v, not %s", text, told(got), err, told(want))
	}
}

// refusedOver fails, if a text isn't answered this fault, in this one word, over a table.
func refusedOver(t *testing.T, table *ops.Table, text, word string, code api.Errno, at int) {
	t.Helper()
	got, err := read.All(table, text)
	if fault.Code(err) != code || fault.At(err) != at || len(got) != 0 || !slices.Equal(fault.Path(err), []string{word}) {
		t.Fatalf("%.80q: %s, %v, not fault %d at %d in %q", text, told(got), err, code, at, word)
	}
}

// refused is refusedOver the operators that there always are, of a term.
func refused(t *testing.T, text string, code api.Errno, at int) {
	t.Helper()
	refusedOver(t, ops.New(), text, "term", code, at)
}

// eachTerm fails, if one of the texts isn't the term, over the operators that there always are; each text and its term are parted by " => ".
func eachTerm(t *testing.T, lines ...string) {
	t.Helper()
	for _, line := range lines {
		text, want, _ := strings.Cut(line, " => ")
		terms(t, ops.New(), text, want)
	}
}

// eachUnfit fails, if one of the texts isn't ErrSyntax at the place that a ^ marks; it is taken out of the text.
func eachUnfit(t *testing.T, texts ...string) {
	t.Helper()
	for _, text := range texts {
		ahead, behind, _ := strings.Cut(text, "^")
		refused(t, ahead+behind, api.ErrSyntax, len(ahead))
	}
}

// has fails, if a table hasn't just these operators.
func has(t *testing.T, table *ops.Table, want []api.Op) {
	t.Helper()
	if got := table.All(); !slices.Equal(got, want) {
		t.Fatalf("the operators are %v, not %v", got, want)
	}
}
