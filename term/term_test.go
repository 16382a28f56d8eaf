package term_test

import (
	"math"
	"math/rand"
	"slices"
	"strings"
	"testing"

	"pythia/api"
	"pythia/term"
)

// right are terms that are right, with their sizes and depths.
var right = []struct {
	name  string
	term  api.Term
	size  int
	depth int
}{
	{"the least variable", va(1), 1, 1},
	{"the greatest variable", va(math.MaxInt64), 1, 1},
	{"number 0", nu(0), 1, 1},
	{"the least number", nu(math.MinInt64), 1, 1},
	{"an atom", at("a"), 1, 1},
	{"the empty atom", at(""), 1, 1},
	{"a long atom", at(strings.Repeat("x", 64)), 1, 1},
	{"bytes that are no text", at("\x00\xff"), 1, 1},
	{"a long name", co(strings.Repeat("x", 64), at("a")), 2, 2},
	{"an empty name", co("", at("a")), 2, 2},
	{"one argument", co("f", va(1)), 2, 2},
	{"eight arguments", co("f", make9()[:8]...), 9, 2},
	{"a deep argument first", co("f", co("g", co("h", at("a"))), at("b")), 5, 4},
	{"a deep argument last", co("f", at("b"), co("g", co("h", at("a")))), 5, 4},
	{"as deep as may be", tower(at("a"), 99), 100, 100},
	{"as many symbols as may be", sized(2000, va(3)), 2000, 5},
	{"arguments that share memory", doubled(at("a"), 9), 1023, 10},
}

// P7.1: which terms are right, and what they are measured as.
func TestRight(t *testing.T) {
	for _, c := range right {
		for _, u := range []api.Term{c.term, untidy(c.term)} {
			if e := term.Check(u); e != api.OK {
				t.Errorf("%s: Check = %d", c.name, e)
			}
			if s, d := term.Size(u), term.Depth(u); s != c.size || d != c.depth {
				t.Errorf("%s: Size %d, Depth %d, not %d, %d", c.name, s, d, c.size, c.depth)
			}
		}
	}
}

// P7.1: of terms that aren't right every call ends, and tells that or nothing.
func TestWrong(t *testing.T) {
	zero := func(u api.Term) bool { return tidy(u, api.Term{}) }
	for name, w := range wrong() {
		if e := term.Check(w); e != api.ErrTerm {
			t.Errorf("%s: Check = %d", name, e)
		}
		if s, d, v := term.Size(w), term.Depth(w), term.Vars(w); s != 0 || d != 0 || len(v) != 0 {
			t.Errorf("%s: Size %d, Depth %d, Vars %v", name, s, d, v)
		}
		for _, pair := range [][2]api.Term{{w, w}, {w, at("a")}, {at("a"), w}, {va(1), w}, {w, va(1)}} {
			a, b := pair[0], pair[1]
			if term.Same(a, b) || term.Order(a, b) != 0 || term.Variant(a, b) {
				t.Errorf("%s: Same %v, Order %d, Variant %v", name, term.Same(a, b), term.Order(a, b), term.Variant(a, b))
			}
			if binds, ok, e := term.Solve(a, b); len(binds) != 0 || ok || e != api.ErrTerm {
				t.Errorf("%s: Solve = %v, %d", name, ok, e)
			}
		}
		if u, e := term.Apply(w, []api.Bind{{Var: 1, To: at("a")}}); !zero(u) || e != api.ErrTerm {
			t.Errorf("%s: Apply = %d", name, e)
		}
		for _, from := range []int64{1, 0} {
			if u, n, e := term.Rename(w, from); !zero(u) || n != 0 || e != api.ErrTerm {
				t.Errorf("%s: Rename = %d, %d", name, n, e)
			}
		}
		if u, e := term.List(nil, w); !zero(u) || e != api.ErrTerm {
			t.Errorf("%s: List ahead of it = %d", name, e)
		}
		if u, e := term.List([]api.Term{at("a"), w, at("b")}, at("[]")); !zero(u) || e != api.ErrTerm {
			t.Errorf("%s: List of it = %d", name, e)
		}
		if items, end := term.Items(w); len(items) != 0 || !zero(end) {
			t.Errorf("%s: Items are %d", name, len(items))
		}
		if items, end := term.Items(list(at("[]"), at("a"), w)); len(items) != 0 || !zero(end) {
			t.Errorf("%s: Items of a list with it are %d", name, len(items))
		}
	}
}

// P7.1: the variables, each once, from left to right.
func TestVars(t *testing.T) {
	for _, c := range []struct {
		term api.Term
		want []int64
	}{
		{at("a"), nil},
		{nu(3), nil},
		{co("f", at("a"), nu(1)), nil},
		{va(7), []int64{7}},
		{co("f", va(7), va(3), va(7)), []int64{7, 3}},
		{co("f", co("g", va(9), co("h", va(2))), va(5), co("g", va(2), va(1))), []int64{9, 2, 5, 1}},
		{co("f", va(math.MaxInt64), nu(4), va(1)), []int64{math.MaxInt64, 1}},
	} {
		for _, u := range []api.Term{c.term, untidy(c.term)} {
			if got := term.Vars(u); !slices.Equal(got, c.want) {
				t.Errorf("Vars(%s) = %v, not %v", text(c.term), got, c.want)
			}
		}
	}
}

// ordered are terms in standard order.
func ordered() []api.Term {
	return []api.Term{
		va(1), va(2), va(9), va(10), va(math.MaxInt64),
		nu(math.MinInt64), nu(-1), nu(0), nu(3), nu(10), nu(math.MaxInt64),
		at(""), at("\x00"), at("10"), at("Z"), at("a"), at("a\x00"), at("aa"), at("b"), at("\xff"),
		co("", va(1)), co("a", at("z")), co("aa", va(1)), co("f", va(1)), co("f", va(2)), co("f", nu(1)), co("f", at("a")), co("f", co("a", at("a"))), co("g", va(1)),
		co("a", at("a"), at("b")), co("a", at("b"), at("a")), co("f", va(1), va(1)), co("f", va(1), co("a", at("a"))), co("f", va(2), va(1)),
		co("f", nu(-5), at("a")), co("f", nu(2), nu(1)), co("f", at("a"), at("a")), co("g", va(1), va(1)),
		co("a", va(1), va(1), va(1)), co("b", make9()[:8]...), co("c", make9()[:8]...),
	}
}

// P7.1, P7.2: the order across all kinds of terms.
func TestOrder(t *testing.T) {
	terms := ordered()
	for i, a := range terms {
		for j, b := range terms {
			want := 0
			if i < j {
				want = -1
			} else if i > j {
				want = 1
			}
			for _, u := range []api.Term{b, untidy(b)} {
				if got := term.Order(a, u); got != want {
					t.Errorf("Order(%s, %s) = %d, not %d", text(a), text(b), got, want)
				}
				if got := term.Same(a, u); got != (want == 0) {
					t.Errorf("Same(%s, %s) = %v", text(a), text(b), got)
				}
			}
		}
	}
}

// P7.2: of two terms one stands ahead, or they are the same, and the order goes in no ring.
func TestOneOrder(t *testing.T) {
	r := rand.New(rand.NewSource(7))
	var terms []api.Term
	for range 120 {
		terms = append(terms, anyTerm(r, 3, 3))
	}
	for _, a := range terms {
		for _, b := range terms {
			o := term.Order(a, b)
			if o != -term.Order(b, a) || (o == 0) != term.Same(a, b) || (o == 0) != tidy(a, b) || o < -1 || o > 1 {
				t.Fatalf("Order(%s, %s) = %d, the other way %d", text(a), text(b), o, term.Order(b, a))
			}
			for _, c := range terms {
				if o <= 0 && term.Order(b, c) <= 0 && term.Order(a, c) > 0 {
					t.Fatalf("%s, %s, %s go in a ring", text(a), text(b), text(c))
				}
			}
		}
	}
}

// P7.1: the examples, and what is put in the variables' places.
func TestApply(t *testing.T) {
	f := co("f", va(1), at("a"), va(2), co("g", va(1)))
	binds := func(bs ...api.Bind) []api.Bind { return bs }
	for _, c := range []struct {
		name  string
		term  api.Term
		binds []api.Bind
		want  api.Term
	}{
		{"no bindings", f, nil, f},
		{"an empty list", f, binds(), f},
		{"each in its place", f, binds(api.Bind{Var: 1, To: nu(5)}, api.Bind{Var: 2, To: co("h", at("b"))}), co("f", nu(5), at("a"), co("h", at("b")), co("g", nu(5)))},
		{"nothing is put in again", f, binds(api.Bind{Var: 1, To: va(2)}, api.Bind{Var: 2, To: va(1)}), co("f", va(2), at("a"), va(1), co("g", va(2)))},
		{"within its own term", va(1), binds(api.Bind{Var: 1, To: co("s", va(1))}), co("s", va(1))},
		{"itself", va(1), binds(api.Bind{Var: 1, To: va(1)}, api.Bind{Var: 1, To: at("b")}), va(1)},
		{"the first one counts", va(1), binds(api.Bind{Var: 1, To: at("b")}, api.Bind{Var: 2, To: at("d")}, api.Bind{Var: 1, To: at("c")}), at("b")},
		{"others' bindings", f, binds(api.Bind{Var: 3, To: at("b")}, api.Bind{Var: 0, To: at("b")}, api.Bind{Var: -1, To: at("b")}), f},
		{"a wrong one that isn't put in", f, binds(api.Bind{Var: 3}, api.Bind{Var: 1, To: va(1)}, api.Bind{Var: 1}), f},
		{"no variables", co("s", at("a")), binds(api.Bind{Var: 1, To: at("b")}), co("s", at("a"))},
	} {
		if got, e := term.Apply(c.term, c.binds); !tidy(got, c.want) || e != api.OK {
			t.Errorf("%s: %s, %d, not %s", c.name, text(got), e, text(c.want))
		}
		var untidied []api.Bind
		for _, b := range c.binds {
			untidied = append(untidied, api.Bind{Var: b.Var, To: untidy(b.To)})
		}
		if got, e := term.Apply(untidy(c.term), untidied); !tidy(got, c.want) || e != api.OK {
			t.Errorf("%s, untidy: %s, %d", c.name, text(got), e)
		}
	}
}

// P7.1: Apply's errors, and its bounds.
func TestApplyBounds(t *testing.T) {
	two := co("f", va(1), va(2))
	for name, w := range wrong() {
		for _, bs := range [][]api.Bind{
			{{Var: 1, To: w}},
			{{Var: 1, To: sized(2000, at("a"))}, {Var: 2, To: w}},
			{{Var: 2, To: w}, {Var: 2, To: at("a")}},
		} {
			if u, e := term.Apply(two, bs); u.Kind != 0 || e != api.ErrTerm {
				t.Errorf("%s put in: %d", name, e)
			}
		}
	}
	for _, c := range []struct {
		term api.Term
		to   api.Term
		want api.Errno
	}{
		{va(1), sized(2000, at("a")), api.OK},
		{co("s", va(1)), sized(1999, at("a")), api.OK},
		{co("s", va(1)), sized(2000, at("a")), api.ErrLong},
		{co("f", va(1), va(1)), sized(999, at("a")), api.OK},
		{co("f", va(1), va(1)), sized(1000, at("a")), api.ErrLong},
		{sized(2000, va(1)), sized(2000, va(1)), api.ErrLong},
		{sized(2000, va(1)), nu(1), api.OK},
		{tower(va(1), 60), tower(va(1), 39), api.OK},
		{tower(va(1), 60), tower(va(1), 40), api.ErrLong},
		{tower(va(1), 99), tower(va(1), 99), api.ErrLong},
		{tower(va(1), 99), va(4), api.OK},
	} {
		u, e := term.Apply(c.term, []api.Bind{{Var: 1, To: c.to}})
		if e != c.want || (e != api.OK) != tidy(u, api.Term{}) {
			t.Errorf("Apply of sizes %d, %d, depths %d, %d: %d, not %d", term.Size(c.term), term.Size(c.to), term.Depth(c.term), term.Depth(c.to), e, c.want)
		}
	}
}

// P7.1: many bindings.
func TestApplyMany(t *testing.T) {
	var bs []api.Bind
	for i := range 300000 {
		bs = append(bs, api.Bind{Var: int64(i % 1000), To: nu(int64(i))})
	}
	if u, e := term.Apply(co("f", va(999), va(1000), va(5)), bs); !tidy(u, co("f", nu(999), va(1000), nu(5))) || e != api.OK {
		t.Errorf("%s, %d", text(u), e)
	}
}

// P7.1: new numbers in the order of Vars.
func TestRename(t *testing.T) {
	for _, c := range []struct {
		term api.Term
		from int64
		want api.Term
		next int64
	}{
		{co("f", va(7), va(3), va(7)), 1, co("f", va(1), va(2), va(1)), 3},
		{co("f", va(2), va(1)), 1, co("f", va(1), va(2)), 3},
		{co("f", va(7), co("g", va(8), va(9)), va(7)), 8, co("f", va(8), co("g", va(9), va(10)), va(8)), 11},
		{va(5), 5, va(5), 6},
		{at("a"), 4, at("a"), 4},
		{co("f", nu(3), at("a")), 1, co("f", nu(3), at("a")), 1},
		{co("f", va(1), va(2)), 1 << 62, co("f", va(1<<62), va(1<<62+1)), 1<<62 + 2},
	} {
		for _, u := range []api.Term{c.term, untidy(c.term)} {
			if got, next, e := term.Rename(u, c.from); !tidy(got, c.want) || next != c.next || e != api.OK {
				t.Errorf("Rename(%s, %d) = %s, %d, %d", text(c.term), c.from, text(got), next, e)
			}
		}
	}
	for _, from := range []int64{0, -1, math.MinInt64, 1<<62 + 1, math.MaxInt64} {
		if u, n, e := term.Rename(va(1), from); u.Kind != 0 || n != 0 || e != api.ErrArg {
			t.Errorf("Rename from %d: %d, %d", from, n, e)
		}
	}
}

// P7.4: what is renamed is a variant; of variants just one has the variables from on.
func TestVariant(t *testing.T) {
	for _, c := range []struct {
		a, b api.Term
		want bool
	}{
		{va(1), va(9), true},
		{co("f", va(1), va(2)), co("f", va(2), va(1)), true},
		{co("f", va(1), va(1)), co("f", va(1), va(2)), false},
		{co("f", va(1), va(2)), co("f", va(1), va(1)), false},
		{co("f", va(1), va(2), va(1)), co("f", va(4), va(3), va(4)), true},
		{co("f", va(1), va(2), va(1)), co("f", va(4), va(3), va(3)), false},
		{va(1), at("a"), false},
		{va(1), nu(1), false},
		{at("a"), at("a"), true},
		{co("f", va(1)), co("g", va(1)), false},
	} {
		if got := term.Variant(c.a, untidy(c.b)); got != c.want {
			t.Errorf("Variant(%s, %s) = %v", text(c.a), text(c.b), got)
		}
	}
	r := rand.New(rand.NewSource(4))
	for range 4000 {
		a, b, from := anyTerm(r, 3, 3), anyTerm(r, 3, 3), int64(1+r.Intn(4))
		x, next, e := term.Rename(a, from)
		y, _, f := term.Rename(b, from)
		if e != api.OK || f != api.OK || !term.Variant(a, x) || !term.Variant(x, a) {
			t.Fatalf("Rename(%s, %d) = %s, %d: no variant", text(a), from, text(x), e)
		}
		for i, v := range term.Vars(x) {
			if v != from+int64(i) || v >= next {
				t.Fatalf("Rename(%s, %d) = %s, %d", text(a), from, text(x), next)
			}
		}
		if term.Variant(a, b) != tidy(x, y) {
			t.Fatalf("Variant(%s, %s) = %v, renamed %s, %s", text(a), text(b), term.Variant(a, b), text(x), text(y))
		}
	}
}

// P7.1: lists, and what they end in.
func TestList(t *testing.T) {
	nest := list(va(2), at("b"))
	for _, c := range []struct {
		items []api.Term
		tail  api.Term
		want  api.Term
	}{
		{nil, at("[]"), at("[]")},
		{nil, va(3), va(3)},
		{[]api.Term{at("a")}, at("[]"), co(".", at("a"), at("[]"))},
		{[]api.Term{va(1), nu(2), at("c")}, va(1), co(".", va(1), co(".", nu(2), co(".", at("c"), va(1))))},
		{[]api.Term{nest, nest}, nu(1), co(".", nest, co(".", nest, nu(1)))},
	} {
		var untidied []api.Term
		for _, item := range c.items {
			untidied = append(untidied, untidy(item))
		}
		for _, ts := range [][]api.Term{c.items, untidied} {
			got, e := term.List(ts, untidy(c.tail))
			if !tidy(got, c.want) || e != api.OK {
				t.Errorf("List = %s, %d, not %s", text(got), e, text(c.want))
			}
			items, end := term.Items(untidy(got))
			if !slices.EqualFunc(items, c.items, tidy) || !tidy(end, c.tail) {
				t.Errorf("Items(%s) = %d, %s", text(got), len(items), text(end))
			}
		}
	}
	// A tail that is a list goes on.
	got, _ := term.List([]api.Term{at("a")}, nest)
	if items, end := term.Items(got); !slices.EqualFunc(items, []api.Term{at("a"), at("b")}, tidy) || !tidy(end, va(2)) {
		t.Errorf("Items(%s) = %d, %s", text(got), len(items), text(end))
	}
}

// P7.1: what is no link of a list ends it.
func TestItemsOfOthers(t *testing.T) {
	for _, end := range []api.Term{
		at("."), at("[]"), va(1), nu(0), co(".", at("a")), co(".", at("a"), at("b"), at("c")), co("f", at("a"), at("[]")), co("", at("a"), at("b")),
	} {
		if items, got := term.Items(untidy(end)); len(items) != 0 || !tidy(got, end) {
			t.Errorf("Items(%s) = %d, %s", text(end), len(items), text(got))
		}
		if items, got := term.Items(list(end, nu(1), nu(2))); len(items) != 2 || !tidy(items[0], nu(1)) || !tidy(items[1], nu(2)) || !tidy(got, end) {
			t.Errorf("Items ahead of %s = %d, %s", text(end), len(items), text(got))
		}
	}
}

// P7.1: long lists.
func TestLongLists(t *testing.T) {
	many := func(n int, item api.Term) []api.Term { return slices.Repeat([]api.Term{item}, n) }
	for _, c := range []struct {
		items []api.Term
		tail  api.Term
		want  api.Errno
	}{
		{many(99, at("a")), at("[]"), api.OK},
		{many(100, at("a")), at("[]"), api.ErrTerm},
		{many(98, at("a")), tower(at("a"), 1), api.OK},
		{many(99, at("a")), tower(at("a"), 1), api.ErrTerm},
		{many(1000000, at("a")), at("[]"), api.ErrTerm},
		{many(90, sized(21, at("a"))), at("[]"), api.OK},      // 90 * 22 + 1
		{many(90, sized(22, at("a"))), at("[]"), api.ErrTerm}, // 90 * 23 + 1
		{many(1, sized(1998, at("a"))), at("[]"), api.OK},
		{many(1, sized(1999, at("a"))), at("[]"), api.ErrTerm},
		{many(1, tower(at("a"), 98)), at("[]"), api.OK},
		{many(1, tower(at("a"), 99)), at("[]"), api.ErrTerm},
		{nil, tower(at("a"), 99), api.OK},
		{nil, sized(2000, at("a")), api.OK},
	} {
		got, e := term.List(c.items, c.tail)
		if e != c.want || (e != api.OK) != tidy(got, api.Term{}) {
			t.Errorf("List of %d, the tail's size %d: %d, not %d", len(c.items), term.Size(c.tail), e, c.want)
		}
		if items, end := term.Items(got); e == api.OK && (!slices.EqualFunc(items, c.items, tidy) || !tidy(end, c.tail)) {
			t.Errorf("Items of %d are %d", len(c.items), len(items))
		}
	}
}
