package read_test

import (
	"math/rand"
	"slices"
	"strconv"
	"strings"
	"testing"

	"pythia/api"
	"pythia/fault"
	"pythia/lex"
	"pythia/ops"
	"pythia/read"
)

// wrong is what the model breaks off with.
type wrong struct {
	code api.Errno
	at   int
}

// model reads as the chapter's words go, from a token's number to the number of what stands behind. A variable's number is its token's.
type model struct {
	table  *ops.Table
	tokens []api.Token
	end    int
}

// asked are what the model tells of a text: its terms, or the word and the fault.
func asked(table *ops.Table, text string) (rs []api.Read, word string, w wrong) {
	tokens, err := lex.Tokens(text)
	if err != nil {
		return nil, "token", wrong{fault.Code(err), fault.At(err)}
	}
	defer func() {
		if p := recover(); p != nil {
			rs, word, w = nil, "term", p.(wrong)
		}
	}()
	m := model{table, tokens, len(text)}
	for i := 0; i < len(tokens); {
		t, _, behind := m.term(i, 1200, 0)
		if m.kind(behind) != api.TEnd {
			m.fail(behind)
		}
		first := tokens[i].At
		if size, depth, ok := measured(t); !ok || size > 2000 || depth > 100 {
			panic(wrong{api.ErrLong, first})
		}
		if o, is := opOf(t); !is {
			rs = append(rs, m.told(t, first))
		} else if table.Add(o) != api.OK {
			panic(wrong{api.ErrOp, first})
		}
		i = behind + 1
	}
	return rs, "", wrong{}
}

// told is a term with its variables numbered, and their names.
func (m model) told(t api.Term, first int) api.Read {
	r := api.Read{At: first}
	var walk func(t api.Term) api.Term
	walk = func(t api.Term) api.Term {
		if t.Kind == api.Var {
			name := m.tokens[t.Int].Text
			n := slices.Index(r.Names, name)
			if n < 0 || name == "_" {
				n = len(r.Names)
				r.Names = append(r.Names, name)
			}
			return va(int64(n) + 1)
		}
		for i := range t.Args {
			t.Args[i] = walk(t.Args[i])
		}
		return t
	}
	r.Term = walk(t)
	return r
}

// opOf is the operator that a term tells of.
func opOf(t api.Term) (api.Op, bool) {
	if t.Name != ":-" || len(t.Args) != 1 || t.Args[0].Name != "op" || len(t.Args[0].Args) != 3 {
		return api.Op{}, false
	}
	p, k, n := t.Args[0].Args[0], t.Args[0].Args[1], t.Args[0].Args[2]
	kind := slices.Index([]string{"", "xfx", "xfy", "yfx", "fy", "fx", "xf", "yf"}, k.Name)
	return op(n.Name, kind, int(p.Int)), p.Kind == api.Num && k.Kind == api.Atom && kind > 0 && n.Kind == api.Atom
}

// measured is a term's size and depth; false, if a compound one has too many arguments.
func measured(t api.Term) (size, depth int, ok bool) {
	ok = len(t.Args) <= 8
	for _, arg := range t.Args {
		s, d, o := measured(arg)
		size, depth, ok = size+s, max(depth, d), ok && o
	}
	return size + 1, depth + 1, ok
}

func (m model) token(i int) api.Token {
	if i < len(m.tokens) {
		return m.tokens[i]
	}
	return api.Token{At: m.end}
}

func (m model) kind(i int) int { return m.token(i).Kind }

func (m model) fail(i int) {
	if i >= len(m.tokens) {
		panic(wrong{api.ErrEnd, m.end})
	}
	panic(wrong{api.ErrSyntax, m.token(i).At})
}

// is tells whether a token is this one of punctuation.
func (m model) is(i int, punct string) bool {
	return m.kind(i) == api.TPunct && m.token(i).Text == punct
}

// called tells whether a token is a name with ( just behind it.
func (m model) called(i int) bool {
	return m.kind(i) == api.TAtom && m.is(i+1, "(") && !m.token(i+1).Apart
}

// after is the infix or postfix operator that a token is.
func (m model) after(i int) (api.Op, bool) {
	if m.is(i, ",") || m.kind(i) == api.TAtom && !m.token(i).Quoted {
		return m.table.After(m.token(i).Text)
	}
	return api.Op{}, false
}

// prefix is the prefix operator that a token is.
func (m model) prefix(i int) (api.Op, bool) {
	if m.kind(i) == api.TAtom && !m.token(i).Quoted {
		return m.table.Prefix(m.token(i).Text)
	}
	return api.Op{}, false
}

// term is a term of at most p, within some others; its precedence, and what stands behind.
func (m model) term(i, p, within int) (api.Term, int, int) {
	if i < len(m.tokens) && within >= 100 {
		panic(wrong{api.ErrDeep, m.token(i).At})
	}
	t, prec, behind := m.first(i, p, within)
	return m.rest(t, prec, behind, p, within)
}

// rest goes on behind a part.
func (m model) rest(t api.Term, prec, i, p, within int) (api.Term, int, int) {
	o, is := m.after(i)
	left, right := ops.Sides(o)
	switch {
	case !is || o.Prec > p || left < prec:
		return t, prec, i
	case o.Type == api.XF || o.Type == api.YF:
		return m.rest(co(o.Name, t), o.Prec, i+1, p, within)
	}
	u, _, behind := m.term(i+1, right, within+1)
	return m.rest(co(o.Name, t, u), o.Prec, behind, p, within)
}

// first is a first part.
func (m model) first(i, p, within int) (api.Term, int, int) {
	x := m.token(i)
	switch {
	case x.Kind == api.TInt:
		return nu(x.Int), 0, i + 1
	case x.Kind == api.TVar:
		return va(int64(i)), 0, i + 1
	case m.is(i, "("):
		t, behind := m.closed(i+1, ")", within)
		return t, 0, behind
	case m.is(i, "[") && m.is(i+1, "]"):
		return at("[]"), 0, i + 2
	case m.is(i, "["):
		t, behind := m.items(i+1, within)
		return t, 0, behind
	case m.is(i, "{") && m.is(i+1, "}"):
		return at("{}"), 0, i + 2
	case m.is(i, "{"):
		t, behind := m.closed(i+1, "}", within)
		return co("{}", t), 0, behind
	case m.called(i):
		args, behind := m.args(i+2, within)
		return co(x.Text, args...), 0, behind
	case x.Kind == api.TAtom && !x.Quoted && x.Text == "-" && m.kind(i+1) == api.TInt && !m.token(i+1).Apart:
		return nu(-m.token(i + 1).Int), 0, i + 2
	case x.Kind != api.TAtom:
		m.fail(i)
	}
	if o, is := m.prefix(i); is && o.Prec <= p && !m.leaves(i+1) {
		_, right := ops.Sides(o)
		t, _, behind := m.term(i+1, right, within+1)
		return co(x.Text, t), o.Prec, behind
	}
	return at(x.Text), 0, i + 1
}

// leaves tells whether a token ahead of which a prefix operator stands leaves it an atom.
func (m model) leaves(i int) bool {
	if i >= len(m.tokens) || m.kind(i) == api.TEnd || m.is(i, ")") || m.is(i, "]") || m.is(i, "}") || m.is(i, ",") || m.is(i, "|") {
		return true
	}
	_, isAfter := m.after(i)
	_, isPrefix := m.prefix(i)
	return isAfter && !isPrefix && !m.called(i)
}

// closed is a term in brackets.
func (m model) closed(i int, close string, within int) (api.Term, int) {
	t, _, behind := m.term(i, 1200, within+1)
	if !m.is(behind, close) {
		m.fail(behind)
	}
	return t, behind + 1
}

// args are arguments, up to what stands behind the ).
func (m model) args(i, within int) ([]api.Term, int) {
	t, _, behind := m.term(i, 999, within+1)
	if m.is(behind, ",") {
		more, end := m.args(behind+1, within)
		return append([]api.Term{t}, more...), end
	}
	if !m.is(behind, ")") {
		m.fail(behind)
	}
	return []api.Term{t}, behind + 1
}

// items are a list's items as a list, up to what stands behind the ].
func (m model) items(i, within int) (api.Term, int) {
	t, _, behind := m.term(i, 999, within+1)
	switch {
	case m.is(behind, ","):
		more, end := m.items(behind+1, within)
		return co(".", t, more), end
	case m.is(behind, "]"):
		return co(".", t, at("[]")), behind + 1
	case !m.is(behind, "|"):
		m.fail(behind)
	}
	last, _, end := m.term(behind+1, 999, within+1)
	if !m.is(end, "]") {
		m.fail(end)
	}
	return co(".", t, last), end + 1
}

// asModel fails, if a text isn't answered as the model answers it, or leaves another table; it answers whether it was read.
func asModel(t *testing.T, table *ops.Table, text string) bool {
	t.Helper()
	mine, its := table.Clone(), table.Clone()
	got, err := read.All(its, text)
	want, word, w := asked(mine, text)
	var path []string
	if word != "" {
		path = []string{word}
	}
	if !slices.EqualFunc(got, want, same) || fault.Code(err) != w.code || fault.At(err) != w.at || !slices.Equal(fault.Path(err), path) {
		t.Fatalf("%q: %s, %v, not %s, %s %v", text, told(got), err, told(want), word, w)
	}
	if strings.Contains(text, "op") {
		has(t, its, mine.All())
	}
	return err == nil
}

// shorts are pieces for short texts, one or more of each kind.
var shorts = []string{"a", "-", "=", ",", "|", "(", ")", "[", "]", "{", "}", "1", "X", "'-'", ":-", "o", ". "}

// P10.1: all short texts, with blanks between and without.
func TestShortTexts(t *testing.T) {
	tables := []*ops.Table{ops.New(), with(t, op("o", api.XF, 100), op("-", api.FX, 200)), with(t, op("o", api.XFY, 999), op("o", api.FY, 1000), op("=", api.FX, 300), op("-", api.FY, 0))}
	var grow func(text string, more int)
	grow = func(text string, more int) {
		for _, table := range tables {
			asModel(t, table, text)
			asModel(t, table, text+" .")
		}
		if more == 0 {
			return
		}
		for _, piece := range shorts {
			grow(text+piece, more-1)
			if text != "" {
				grow(text+" "+piece, more-1)
			}
		}
	}
	grow("", 3)
}

// names are names for operators and others.
var names = []string{"a", "b", "o", "-", "+", "=", "\\+", ":-", "*", "!", ";", "'a b'", "'-'", "op", "mod"}

// anyTable is a table with some operators changed.
func anyTable(r *rand.Rand) *ops.Table {
	table := ops.New()
	precs := []int{0, 0, 1, 2, 100, 199, 200, 200, 201, 499, 500, 500, 501, 699, 700, 998, 999, 1000, 1001, 1199, 1200}
	for range r.Intn(20) {
		table.Add(op(strings.Trim(names[r.Intn(len(names))], "'"), 1+r.Intn(7), precs[r.Intn(len(precs))]))
	}
	return table
}

// anyTerm is the text of some term, which is right by the grammar but for precedences.
func anyTerm(r *rand.Rand, depth int) string {
	name, blank := names[r.Intn(len(names))], []string{"", " "}[r.Intn(2)]
	if depth == 0 {
		return []string{"a", "b", "X", "Y", "_", "_Z", "1", "-2", "0'a", "[]", "{}", name, "'a'"}[r.Intn(13)]
	}
	t, u := anyTerm(r, depth-1), anyTerm(r, r.Intn(depth))
	switch r.Intn(12) {
	case 0:
		return "(" + t + blank + ")"
	case 1:
		return "{" + t + blank + "}"
	case 2:
		return "[" + t + blank + "]"
	case 3:
		return "[" + t + blank + "," + u + blank + "|" + t + "]"
	case 4:
		return name + "(" + t + blank + "," + u + ")"
	case 5:
		return name + "(" + u + ")"
	case 6, 7:
		return name + " " + t
	case 8:
		return t + " " + name
	case 9:
		return u + blank + "," + blank + t
	}
	return u + " " + name + " " + t
}

// anyText is a text of some terms, perhaps with a few pieces changed.
func anyText(r *rand.Rand) string {
	var b strings.Builder
	for range 1 + r.Intn(3) {
		if r.Intn(4) == 0 {
			b.WriteString(":- op(" + strconv.Itoa(r.Intn(13)*100) + ", " + []string{"xfx", "xfy", "yfx", "fy", "fx", "xf", "yf", "foo"}[r.Intn(8)] + ", " + names[r.Intn(len(names))] + " ). ")
		} else {
			b.WriteString(anyTerm(r, r.Intn(5)) + " .\n")
		}
	}
	text := b.String()
	for r.Intn(3) == 0 {
		i := r.Intn(len(text) + 1)
		j := min(len(text), i+r.Intn(3))
		text = text[:i] + []string{"", " ", shorts[r.Intn(len(shorts))]}[r.Intn(3)] + text[j:]
	}
	return text
}

// P10.1: texts made at random, over tables made at random.
func TestAnyTexts(t *testing.T) {
	r := rand.New(rand.NewSource(10))
	right := 0
	for range 60000 {
		if asModel(t, anyTable(r), anyText(r)) {
			right++
		}
	}
	if right < 10000 {
		t.Errorf("%d texts were read", right)
	}
}

// P1, P10.1: texts of any bytes.
func TestAnyBytes(t *testing.T) {
	r := rand.New(rand.NewSource(11))
	table := ops.New()
	for range 20000 {
		text := make([]byte, r.Intn(12))
		for i := range text {
			text[i] = byte(r.Intn(256))
			if r.Intn(8) > 0 {
				text[i] = "aX_1.,()[]{}|-=' :"[r.Intn(18)]
			}
		}
		asModel(t, table, string(text))
	}
	for range 30 {
		var b strings.Builder
		for b.Len() < api.MaxText-5 {
			b.WriteString(shorts[r.Intn(len(shorts))])
		}
		asModel(t, table, b.String())
	}
	for _, c := range "([{-\\,.='" {
		asModel(t, table, strings.Repeat(string(c), api.MaxText))
		asModel(t, table, strings.Repeat(string(c)+" ", api.MaxText/2))
		asModel(t, table, strings.Repeat("a"+string(c), api.MaxText/2))
	}
}

// isRight tells whether what was read is right, and its variables are numbered without a gap and named.
func isRight(r api.Read) bool {
	size, depth, ok := measured(r.Term)
	last := int64(0)
	var walk func(t api.Term) bool
	walk = func(t api.Term) bool {
		if t.Kind == api.Var && t.Int == last+1 {
			last++
		}
		switch t.Kind {
		case api.Var:
			return t.Int >= 1 && t.Int <= last
		case api.Comp:
			return len(t.Args) > 0 && len(t.Name) <= 64 && !slices.ContainsFunc(t.Args, func(arg api.Term) bool { return !walk(arg) })
		}
		return t.Kind == api.Num || t.Kind == api.Atom && len(t.Name) <= 64
	}
	return ok && size <= 2000 && depth <= 100 && walk(r.Term) && int(last) == len(r.Names)
}

// P10.2: terms are right, variables are numbered without a gap, places rise.
func TestRight(t *testing.T) {
	r := rand.New(rand.NewSource(12))
	for range 20000 {
		text := anyText(r)
		rs, _ := read.All(anyTable(r), text)
		for i, x := range rs {
			if !isRight(x) || i > 0 && rs[i-1].At >= x.At {
				t.Fatalf("%q: %s", text, told(rs))
			}
		}
	}
}

// P10.3: texts one behind the other are read as their terms one behind the other.
func TestBehindOneAnother(t *testing.T) {
	r := rand.New(rand.NewSource(13))
	joined := 0
	for range 3000 {
		whole := anyTable(r)
		table := whole.Clone()
		var all string
		var want []api.Read
		for range r.Intn(10) {
			text, after := anyText(r)+" ", table.Clone()
			rs, err := read.All(after, text)
			if err != nil {
				continue
			}
			for _, x := range rs {
				x.At += len(all)
				want = append(want, x)
			}
			if len(all) > 0 {
				joined++
			}
			all += text
			table = after
		}
		got, err := read.All(whole, all)
		if err != nil || !slices.EqualFunc(got, want, same) {
			t.Fatalf("%q: %s, %v, not %s", all, told(got), err, told(want))
		}
		has(t, whole, table.All())
	}
	if joined < 1000 {
		t.Errorf("%d texts were joined", joined)
	}
}
