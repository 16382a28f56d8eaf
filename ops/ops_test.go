package ops_test

import (
	"math"
	"slices"
	"strconv"
	"strings"
	"testing"

	"pythia/api"
	"pythia/ops"
)

// op makes an operator.
func op(name string, kind, prec int) api.Op { return api.Op{Name: name, Type: kind, Prec: prec} }

// atFirst are the operators of a new table, in order.
func atFirst() []api.Op {
	return []api.Op{
		op("*", api.YFX, 400), op("**", api.XFX, 200), op("+", api.YFX, 500), op(",", api.XFY, 1000), op("-", api.FY, 200), op("-", api.YFX, 500),
		op("-->", api.XFX, 1200), op("->", api.XFY, 1050), op("/", api.YFX, 400), op("//", api.YFX, 400), op("/\\", api.YFX, 500),
		op(":-", api.FX, 1200), op(":-", api.XFX, 1200), op(";", api.XFY, 1100), op("<", api.XFX, 700), op("<<", api.YFX, 400),
		op("=", api.XFX, 700), op("=..", api.XFX, 700), op("=:=", api.XFX, 700), op("=<", api.XFX, 700), op("==", api.XFX, 700), op("=\\=", api.XFX, 700),
		op(">", api.XFX, 700), op(">=", api.XFX, 700), op(">>", api.YFX, 400), op("?-", api.FX, 1200),
		op("@<", api.XFX, 700), op("@=<", api.XFX, 700), op("@>", api.XFX, 700), op("@>=", api.XFX, 700),
		op("\\", api.FY, 200), op("\\+", api.FY, 900), op("\\/", api.YFX, 500), op("\\=", api.XFX, 700), op("\\==", api.XFX, 700),
		op("^", api.XFY, 200), op("is", api.XFX, 700), op("mod", api.YFX, 400), op("rem", api.YFX, 400),
	}
}

// has fails, if a table's operators aren't these.
func has(t *testing.T, table *ops.Table, want []api.Op) {
	t.Helper()
	if got := table.All(); !slices.Equal(got, want) {
		t.Fatalf("All = %v, not %v", got, want)
	}
}

// added fails, if Add doesn't answer this.
func added(t *testing.T, table *ops.Table, o api.Op, want api.Errno) {
	t.Helper()
	if e := table.Add(o); e != want {
		t.Fatalf("Add(%v) = %d, not %d", o, e, want)
	}
}

// P9.1: the chapter's examples.
func TestExamples(t *testing.T) {
	table := ops.New()
	if o, is := table.Prefix("-"); !is || o != op("-", api.FY, 200) {
		t.Errorf("Prefix = %v, %v", o, is)
	}
	o, is := table.After("-")
	if !is || o != op("-", api.YFX, 500) {
		t.Errorf("After = %v, %v", o, is)
	}
	if l, r := ops.Sides(o); l != 500 || r != 499 {
		t.Errorf("Sides = %d, %d", l, r)
	}
	added(t, table, op("foo", api.XF, 100), api.OK)
	added(t, table, op("foo", api.XFX, 200), api.ErrOp)
}

// P9.1: a new table.
func TestAtFirst(t *testing.T) {
	table := ops.New()
	has(t, table, atFirst())
	for _, o := range atFirst() {
		got, is := table.After(o.Name)
		if o.Type == api.FY || o.Type == api.FX {
			got, is = table.Prefix(o.Name)
		}
		if !is || got != o {
			t.Errorf("%v is %v", o, got)
		}
	}
	for _, name := range []string{"", "a", "=.", "|", "[]", "{}", ".", " ", "- ", ":", "!", "\xff", strings.Repeat("x", 1<<20)} {
		p, isPrefix := table.Prefix(name)
		a, isAfter := table.After(name)
		if isPrefix || isAfter || p != (api.Op{}) || a != (api.Op{}) {
			t.Errorf("%.80q is %v, %v", name, p, a)
		}
	}
	for _, name := range []string{"=", ",", "is", "->"} {
		if o, is := table.Prefix(name); is || o != (api.Op{}) {
			t.Errorf("Prefix(%q) = %v", name, o)
		}
	}
	for _, name := range []string{"?-", "\\+", "\\"} {
		if o, is := table.After(name); is || o != (api.Op{}) {
			t.Errorf("After(%q) = %v", name, o)
		}
	}
}

// P9.1: an operator of each type, in the place of one of each type.
func TestEachType(t *testing.T) {
	sort := []int{api.XFX: 1, api.XFY: 1, api.YFX: 1, api.FY: 0, api.FX: 0, api.XF: 2, api.YF: 2}
	for was := api.XFX; was <= api.YF; was++ {
		for o := api.XFX; o <= api.YF; o++ {
			for _, prec := range []int{0, 1, 300, 1200} {
				table := ops.New()
				added(t, table, op("foo", was, 200), api.OK)
				want := []api.Op{op("foo", was, 200)}
				switch {
				case sort[was] == sort[o] && prec == 0:
					want = nil
				case sort[was] == sort[o]:
					want = []api.Op{op("foo", o, prec)}
				case sort[was] == 0 && prec > 0:
					want = append(want, op("foo", o, prec))
				case sort[o] == 0 && prec > 0:
					want = append([]api.Op{op("foo", o, prec)}, want...)
				}
				code := api.OK
				if sort[was]+sort[o] == 3 {
					code = api.ErrOp
				}
				added(t, table, op("foo", o, prec), code)
				got := slices.DeleteFunc(table.All(), func(o api.Op) bool { return o.Name != "foo" })
				if !slices.Equal(got, want) {
					t.Errorf("type %d, then type %d with %d: %v, not %v", was, o, prec, got, want)
				}
			}
		}
	}
}

// P9.1: once a name is no infix operator any more, it may be a postfix one, and the other way round.
func TestOtherSort(t *testing.T) {
	table := ops.New()
	added(t, table, op("-", api.XF, 100), api.ErrOp)
	added(t, table, op("-", api.YF, 0), api.ErrOp)
	added(t, table, op("-", api.XFX, 0), api.OK)
	if _, is := table.After("-"); is {
		t.Error("- is an infix operator still")
	}
	added(t, table, op("-", api.XF, 100), api.OK)
	added(t, table, op("-", api.YFX, 0), api.ErrOp)
	added(t, table, op("-", api.YF, 0), api.OK)
	added(t, table, op("-", api.YFX, 0), api.OK)
	if o, is := table.Prefix("-"); !is || o != op("-", api.FY, 200) {
		t.Errorf("Prefix = %v, %v", o, is)
	}
	added(t, table, op("-", api.FX, 0), api.OK)
	added(t, table, op("-", api.FX, 0), api.OK)
	if o, is := table.Prefix("-"); is || o != (api.Op{}) {
		t.Errorf("Prefix = %v, %v", o, is)
	}
	has(t, table, slices.DeleteFunc(atFirst(), func(o api.Op) bool { return o.Name == "-" }))
}

// refusals are operators that a new table refuses, and why.
func refusals() map[api.Op]api.Errno {
	long := strings.Repeat("x", 65)
	all := map[api.Op]api.Errno{
		op("a", 0, 100): api.ErrArg, op("a", 8, 100): api.ErrArg, op("a", -1, 100): api.ErrArg, op("a", math.MaxInt, 100): api.ErrArg, op("a", math.MinInt, 100): api.ErrArg,
		op("a", 0, 0): api.ErrArg, op("a", 8, 0): api.ErrArg, op("a", api.XFX, -1): api.ErrArg, op("a", api.XFX, 1201): api.ErrArg,
		op("a", api.FY, math.MinInt): api.ErrArg, op("a", api.XF, math.MaxInt): api.ErrArg,
		op("", 0, 100): api.ErrArg, op("", api.FX, 1201): api.ErrArg, op(long, 8, 0): api.ErrArg, op(",", api.XFY, 1201): api.ErrArg, op("-", api.YF, -1): api.ErrArg,
		op("", api.XFX, 100): api.ErrLong, op("", api.FY, 0): api.ErrLong, op(long, api.XFX, 100): api.ErrLong, op(long, api.XF, 0): api.ErrLong,
		op(strings.Repeat("y", 1<<20), api.FY, 1200): api.ErrLong, {}: api.ErrArg,
	}
	for _, name := range []string{",", "|", "[]", "{}"} {
		for kind := api.XFX; kind <= api.YF; kind++ {
			for _, prec := range []int{0, 1, 1000, 1200} {
				all[op(name, kind, prec)] = api.ErrOp
			}
		}
	}
	return all
}

// P9.1, P9.2: what is refused, and by which error; and that it changes nothing.
func TestRefused(t *testing.T) {
	table := ops.New()
	for o, want := range refusals() {
		added(t, table, o, want)
		has(t, table, atFirst())
	}
}

// P9.1: names and precedences at the edges of what may be.
func TestEdges(t *testing.T) {
	long := strings.Repeat("x", 64)
	for _, o := range []api.Op{op(long, api.XFX, 1200), op("a", api.FY, 1), op("\x00", api.XF, 1), op("\xff\n", api.YFX, 1200), op("[", api.FX, 7), op("[] ", api.XF, 7), op(".", api.FY, 3), op(" ", api.FY, 3)} {
		table := ops.New()
		added(t, table, o, api.OK)
		if len(table.All()) != len(atFirst())+1 || !slices.Contains(table.All(), o) {
			t.Errorf("%v isn't there", o)
		}
	}
}

// full is a table with as many operators as may be.
func full(t *testing.T) *ops.Table {
	table := ops.New()
	for n := len(atFirst()); n < api.MaxOps; n++ {
		added(t, table, op("o"+strconv.Itoa(n), api.XFX+n%7, 1+n), api.OK)
	}
	return table
}

// P9.1, P9.2: a table that is full.
func TestFull(t *testing.T) {
	table := full(t)
	want := table.All()
	if len(want) != api.MaxOps {
		t.Fatalf("%d operators", len(want))
	}
	for kind := api.XFX; kind <= api.YF; kind++ {
		added(t, table, op("a", kind, 1), api.ErrMany)
		added(t, table, op("a", kind, 0), api.OK)
	}
	added(t, table, op("is", api.FY, 100), api.ErrMany)
	added(t, table, op("?-", api.XFX, 100), api.ErrMany)
	for o, code := range refusals() {
		added(t, table, o, code)
	}
	added(t, table, op("is", api.XF, 1), api.ErrOp)
	has(t, table, want)
	added(t, table, op("is", api.YFX, 1200), api.OK)
	added(t, table, op("\\+", api.FX, 1), api.OK)
	if len(table.All()) != api.MaxOps {
		t.Errorf("%d operators", len(table.All()))
	}
	added(t, table, op("\\+", api.FY, 0), api.OK)
	added(t, table, op("a", api.YF, 1), api.OK)
	added(t, table, op("\\+", api.FY, 900), api.ErrMany)
	added(t, table, op("a", api.FY, 1), api.ErrMany)
	added(t, table, op("a", api.XF, 0), api.OK)
	added(t, table, op("\\+", api.FY, 900), api.OK)
	if len(table.All()) != api.MaxOps {
		t.Errorf("%d operators", len(table.All()))
	}
}

// P9.2: clones change apart.
func TestClone(t *testing.T) {
	table := ops.New()
	added(t, table, op("foo", api.XF, 100), api.OK)
	was := table.All()
	clone := table.Clone()
	has(t, clone, was)
	added(t, clone, op("bar", api.FY, 5), api.OK)
	added(t, clone, op("foo", api.XF, 0), api.OK)
	added(t, clone, op("-", api.FX, 7), api.OK)
	changed := clone.All()
	has(t, table, was)
	has(t, ops.New(), atFirst())
	if o, is := clone.Prefix("-"); !is || o != op("-", api.FX, 7) {
		t.Errorf("Prefix = %v, %v", o, is)
	}
	added(t, table, op("foo", api.YF, 9), api.OK)
	added(t, table, op("*", api.XFX, 0), api.OK)
	has(t, clone, changed)
	again := clone.Clone()
	added(t, again, op("is", api.XFX, 0), api.OK)
	has(t, clone, changed)
	// A clone of a full table is full, and has room of its own.
	many := full(t)
	other := many.Clone()
	added(t, other, op("a", api.FY, 1), api.ErrMany)
	added(t, other, op("is", api.XFX, 0), api.OK)
	added(t, other, op("a", api.FY, 1), api.OK)
	added(t, many, op("a", api.FY, 1), api.ErrMany)
}

// P9.3: an answer that is held while the table changes stays; the table stays while the answer is written over.
func TestAnswersAreNew(t *testing.T) {
	table := ops.New()
	held := table.All()
	prefix, _ := table.Prefix("-")
	added(t, table, op("!", api.FY, 5), api.OK)
	added(t, table, op("-", api.FX, 5), api.OK)
	added(t, table, op("*", api.YFX, 0), api.OK)
	if !slices.Equal(held, atFirst()) || prefix != op("-", api.FY, 200) {
		t.Errorf("%v; %v", held, prefix)
	}
	want := table.All()
	other := table.All()
	clear(other[:cap(other)])
	has(t, table, want)
	clear(held[:cap(held)])
	has(t, ops.New(), atFirst())
}

// P2: what is told doesn't hang on a map's order.
func TestAlways(t *testing.T) {
	table := full(t)
	want := table.All()
	for range 50 {
		has(t, table, want)
		has(t, table.Clone(), want)
	}
	if !slices.IsSortedFunc(want, func(a, b api.Op) int { return strings.Compare(a.Name, b.Name) }) {
		t.Errorf("%v", want)
	}
}

// P9.1: the sides of all types and precedences, also of those that are none.
func TestSides(t *testing.T) {
	for _, p := range []int{1, 2, 200, 999, 1199, 1200} {
		for kind, want := range [][2]int{
			api.XFX: {p - 1, p - 1}, api.XFY: {p - 1, p}, api.YFX: {p, p - 1}, api.FY: {-1, p}, api.FX: {-1, p - 1}, api.XF: {p - 1, -1}, api.YF: {p, -1},
			0: {-1, -1}, 8: {-1, -1}, 9: {-1, -1},
		} {
			for _, name := range []string{"a", "", ","} {
				if l, r := ops.Sides(op(name, kind, p)); l != want[0] || r != want[1] {
					t.Errorf("Sides of type %d, %d = %d, %d, not %v", kind, p, l, r, want)
				}
			}
		}
	}
	for _, o := range []api.Op{{}, op("a", -1, 100), op("a", math.MaxInt, 100), op("a", math.MinInt, 100), op("a", api.XFX, 0), op("a", api.FY, 0), op("a", api.YF, 0)} {
		if l, r := ops.Sides(o); l != -1 || r != -1 {
			t.Errorf("Sides(%v) = %d, %d", o, l, r)
		}
	}
	for kind := api.XFX; kind <= api.YF; kind++ {
		for _, p := range []int{-1, 1201, math.MinInt, math.MaxInt} {
			if l, r := ops.Sides(op("a", kind, p)); l != -1 || r != -1 {
				t.Errorf("Sides of type %d, %d = %d, %d", kind, p, l, r)
			}
		}
	}
}
