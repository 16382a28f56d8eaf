package base_test

import (
	"math/rand"
	"strings"
	"testing"

	"pythia/api"
	"pythia/base"
	"pythia/term"
)

// is fails, if a term isn't this clause.
func is(t *testing.T, u api.Term, want api.Clause) {
	t.Helper()
	if c, e := base.Clause(u); !sameClause(c, want) || e != api.OK {
		t.Errorf("Clause(%.200s) = %v, %d, not %v", text(u), c, e, want)
	}
}

// isNone fails, if a term is a clause, or none for another reason.
func isNone(t *testing.T, name string, u api.Term, want api.Errno) {
	t.Helper()
	if c, e := base.Clause(u); !sameClause(c, api.Clause{}) || e != want {
		t.Errorf("Clause of %s = %v, %d, not %d", name, c, e, want)
	}
}

// P16.2: which clause a term is.
func TestClause(t *testing.T) {
	is(t, co(":-", co("p", va(1)), at("q")), cl(co("p", va(1)), at("q")))
	is(t, co(":-", at("p"), va(7)), cl(at("p"), va(7)))
	is(t, at("p"), fact(at("p")))
	is(t, at(":-"), fact(at(":-")))
	is(t, co("p", nu(1), va(3)), fact(co("p", nu(1), va(3))))
	is(t, co(":-", at("p")), fact(co(":-", at("p"))))
	is(t, co(":-", at("p"), at("q"), at("r")), fact(co(":-", at("p"), at("q"), at("r"))))
	is(t, co(":-", nu(1)), fact(co(":-", nu(1))))
	is(t, co("-:", nu(1), nu(2)), fact(co("-:", nu(1), nu(2))))
	is(t, co(":-", co(":-", nu(1), nu(2)), co(":-", at("a"), nu(2))), cl(co(":-", nu(1), nu(2)), co(":-", at("a"), nu(2))))
	is(t, co(":-", at(strings.Repeat("x", 64)), at("q")), cl(at(strings.Repeat("x", 64)), at("q")))
	is(t, tower(at("a"), 99), fact(tower(at("a"), 99)))
	is(t, sized(2000), fact(sized(2000)))
}

// P16.2: which terms are none.
func TestNoClause(t *testing.T) {
	for name, u := range map[string]api.Term{
		"a head that is a number":   co(":-", nu(3), at("q")),
		"a head that is a variable": co(":-", va(3), at("q")),
		"a body that is a number":   co(":-", at("p"), nu(3)),
		"a variable":                va(1),
		"a number":                  nu(1),
	} {
		isNone(t, name, u, api.ErrClause)
	}
	for name, u := range wrong() {
		isNone(t, name, u, api.ErrTerm)
		isNone(t, name+", as a head", co(":-", u, at("q")), api.ErrTerm)
		isNone(t, name+", as a body", co(":-", nu(3), u), api.ErrTerm)
	}
	for name, u := range endless() {
		isNone(t, name, u, api.ErrTerm)
	}
}

// P16.2: any term is a clause, or none, and its term tells it again.
func TestAnyClause(t *testing.T) {
	r := rand.New(rand.NewSource(162))
	for range 3000 {
		u := anyTerm(r, 4)
		want := fact(u)
		if u.Kind == api.Comp && u.Name == ":-" && len(u.Args) == 2 {
			want = cl(u.Args[0], u.Args[1])
		}
		if want.Head.Kind < api.Atom || want.Body.Kind == api.Num {
			isNone(t, text(u), untidy(u), api.ErrClause)
			continue
		}
		is(t, untidy(u), want)
		is(t, base.Term(want), want)
	}
}

// P16.2: the term of a clause, whatever it is.
func TestTerm(t *testing.T) {
	for _, c := range []api.Clause{
		cl(co("p", va(7), va(3)), at("q")), fact(at("p")), cl(nu(3), nu(4)), cl(va(1), va(2)), {},
		cl(tower(at("a"), 99), tower(at("b"), 99)), cl(sized(2000), sized(2000)),
	} {
		if got := base.Term(cl(untidy(c.Head), untidy(c.Body))); !same(got, co(":-", c.Head, c.Body)) {
			t.Errorf("Term of %.200s and %.200s = %.200s", text(c.Head), text(c.Body), text(got))
		}
	}
	for name, u := range wrong() {
		if got := base.Term(cl(untidy(u), at("b"))); !same(got, co(":-", u, at("b"))) {
			t.Errorf("Term with %s as head = %.200s", name, text(got))
		}
		if got := base.Term(cl(va(9), untidy(u))); !same(got, co(":-", va(9), u)) {
			t.Errorf("Term with %s as body = %.200s", name, text(got))
		}
	}
	if got := base.Term(fact(doubled(at("a"), 16))); term.Size(got) != 0 || len(got.Args[0].Args) != 2 {
		t.Errorf("Term of a great clause has not all of it")
	}
}

// P1: Term ends, also where a clause can't be written out.
func TestEndless(t *testing.T) {
	for name, u := range endless() {
		if got := base.Term(cl(u, at("b"))); !same(got, co(":-", api.Term{}, at("b"))) {
			t.Errorf("Term with %s = %.200s", name, text(got))
		}
		if got := base.Term(cl(at("p"), tower(u, 3))); !same(got, co(":-", at("p"), api.Term{})) {
			t.Errorf("Term with %s = %.200s", name, text(got))
		}
	}
	if got := base.Term(cl(tower(at("a"), 60000), at("b"))); len(got.Args[0].Args) != 1 {
		t.Errorf("Term of a deep clause")
	}
	if got := base.Term(cl(tower(at("a"), 1<<22), at("b"))); got.Args[0].Kind != 0 {
		t.Errorf("Term of a clause that is too deep")
	}
}

// P16.2: the predicate of a head.
func TestOf(t *testing.T) {
	long := strings.Repeat("x", 65)
	for _, c := range []struct {
		head api.Term
		want api.Pred
		ok   bool
	}{
		{at("p"), pred("p", 0), true},
		{untidy(at("p")), pred("p", 0), true},
		{co("p", va(1), nu(2)), pred("p", 2), true},
		{co(":-", va(1), nu(2)), pred(":-", 2), true},
		{at(""), pred("", 0), true},
		{nu(3), pred("", 0), false},
		{untidy(nu(3)), pred("", 0), false},
		{untidy(va(3)), pred("", 0), false},
		{api.Term{}, pred("", 0), false},
		{api.Term{Kind: 5, Name: "a", Args: []api.Term{at("b")}}, pred("", 0), false},
		{at(long), pred(long, 0), true},
		{co("p"), pred("p", 0), true},
		{co("p", make([]api.Term, 9)...), pred("p", 9), true},
		{ring(), pred("s", 2), true},
		{doubled(at("a"), 60), pred("d", 2), true},
	} {
		if p, ok := base.Of(c.head); p != c.want || ok != c.ok {
			t.Errorf("Of gave %v, %v, not %v, %v", p, ok, c.want, c.ok)
		}
	}
}

// P16.4: Clause and Term let their arguments be, and answer new memory.
func TestClauseMemory(t *testing.T) {
	r := rand.New(rand.NewSource(164))
	for range 500 {
		was := co(":-", co("p", anyTerm(r, 4)), co("q", anyTerm(r, 4)))
		u := roomy(was)
		c, e := base.Clause(u)
		if e != api.OK || !unspoilt(u, was) {
			t.Fatalf("Clause(%s): %d, changed to %s", text(was), e, text(u))
		}
		handed := roomyClause(c)
		back := base.Term(handed)
		if !unspoilt(handed.Head, c.Head) || !unspoilt(handed.Body, c.Body) {
			t.Fatalf("Term has changed %s", text(was))
		}
		spoil(u, handed.Head, handed.Body)
		if !same(back, was) || !sameClause(c, cl(was.Args[0], was.Args[1])) {
			t.Fatalf("%s was kept: %s, %v", text(was), text(back), c)
		}
		seen := map[*api.Term]int{}
		apart(t, seen, back, c.Head, c.Body)
	}
	seen := map[*api.Term]int{}
	d := doubled(at("a"), 4)
	c, _ := base.Clause(co(":-", d, d))
	f, _ := base.Clause(d)
	apart(t, seen, c.Head, c.Body, f.Head, base.Term(cl(d, d)), base.Term(cl(d, co("p", d))))
}

// apart fails, if two lists of arguments in terms share memory, spare room too.
func apart(t *testing.T, seen map[*api.Term]int, terms ...api.Term) {
	t.Helper()
	for _, u := range terms {
		room := u.Args[:cap(u.Args)]
		for i := range room {
			if seen[&room[i]]++; seen[&room[i]] > 1 {
				t.Fatalf("%.200s shares memory", text(u))
			}
		}
		apart(t, seen, u.Args...)
	}
}
