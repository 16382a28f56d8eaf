package term_test

import (
	"math/rand"
	"slices"
	"testing"

	"pythia/api"
	"pythia/term"
)

// roomy is a term whose lists of arguments have spare room, with marks in it.
func roomy(t api.Term) api.Term {
	if t.Kind != api.Comp {
		return t
	}
	args := make([]api.Term, 0, len(t.Args)+2)
	for _, arg := range t.Args {
		args = append(args, roomy(arg))
	}
	t.Args = append(args, at("spare"), at("room"))[:len(args)]
	return t
}

// unspoilt tells whether a term that roomy made is still the one that it was made of, its spare room too.
func unspoilt(t, was api.Term) bool {
	if t.Kind != was.Kind || t.Name != was.Name || t.Int != was.Int || len(t.Args) != len(was.Args) {
		return false
	}
	if t.Kind != api.Comp {
		return true
	}
	all := t.Args[:len(t.Args)+2]
	if !tidy(all[len(t.Args)], at("spare")) || !tidy(all[len(t.Args)+1], at("room")) {
		return false
	}
	return slices.EqualFunc(t.Args, was.Args, unspoilt)
}

// spoil writes over all memory of a term, its spare room too.
func spoil(t api.Term) {
	for i := range t.Args {
		spoil(t.Args[i])
	}
	all := t.Args[:cap(t.Args)]
	for i := range all {
		all[i] = nu(-99)
	}
}

// answers are what the calls answer of two terms, as terms.
func answers(a, b api.Term) []api.Term {
	var all []api.Term
	binds, _, _ := term.Solve(a, b)
	for _, g := range binds {
		all = append(all, g.To)
	}
	applied, _ := term.Apply(a, []api.Bind{{Var: 1, To: b}, {Var: 2, To: b}, {Var: 3, To: a}})
	renamed, _, _ := term.Rename(a, 5)
	listed, _ := term.List([]api.Term{a, b, a}, b)
	alone, _ := term.List(nil, a)
	items, end := term.Items(a)
	itemsOfB, endOfB := term.Items(b)
	all = append(all, applied, renamed, listed, alone, end, endOfB)
	return append(append(all, items...), itemsOfB...)
}

// P7.5: answers held while arguments are turned, and arguments while answers are written over.
func TestMemory(t *testing.T) {
	r := rand.New(rand.NewSource(5))
	for range 3000 {
		a, b := anyTerm(r, 4, 3), anyTerm(r, 4, 3)
		if r.Intn(2) == 0 {
			a, b = list(b, a, a), list(va(3), b, a)
		}
		x, y := roomy(a), roomy(b)
		want, held := answers(a, b), answers(x, y)
		if !slices.EqualFunc(held, want, tidy) || !unspoilt(x, a) || !unspoilt(y, b) {
			t.Fatalf("%s, %s: the arguments were changed", text(a), text(b))
		}
		spoil(x)
		spoil(y)
		if !slices.EqualFunc(held, want, tidy) {
			t.Fatalf("%s, %s: the answers hang on the arguments", text(a), text(b))
		}
		x, y = roomy(a), roomy(b)
		for i, u := range answers(x, y) {
			spoil(u)
			if !unspoilt(x, a) || !unspoilt(y, b) {
				t.Fatalf("%s, %s: answer %d hangs on the arguments", text(a), text(b), i)
			}
		}
	}
}

// apart fails, if two lists of arguments in a term or in several share memory, spare room too.
func apart(t *testing.T, seen map[*api.Term]int, terms ...api.Term) {
	for _, u := range terms {
		all := u.Args[:cap(u.Args)]
		for i := range all {
			if seen[&all[i]]++; seen[&all[i]] > 1 {
				t.Fatalf("%s shares memory", text(u))
			}
		}
		apart(t, seen, u.Args...)
	}
}

// P7.5: no two lists of one answer share any memory.
func TestApart(t *testing.T) {
	big := sized(30, at("a"))
	two := co("f", va(1), va(2), va(1), va(2))
	binds, _, _ := term.Solve(two, co("f", va(2), va(3), big, va(4)))
	seen := map[*api.Term]int{}
	if len(binds) != 4 {
		t.Fatalf("%d bindings", len(binds))
	}
	for _, g := range binds {
		apart(t, seen, g.To)
	}
	applied, _ := term.Apply(two, []api.Bind{{Var: 1, To: big}, {Var: 2, To: big}})
	apart(t, map[*api.Term]int{}, applied)
	listed, _ := term.List([]api.Term{big, big}, big)
	apart(t, map[*api.Term]int{}, listed)
	renamed, _, _ := term.Rename(doubled(va(1), 4), 1)
	apart(t, map[*api.Term]int{}, renamed)
	items, end := term.Items(list(big, big, big))
	apart(t, map[*api.Term]int{}, end, api.Term{Args: items})
}

// P7.5: what is answered once isn't touched by later calls.
func TestHeld(t *testing.T) {
	a := co("f", va(1), co("g", va(2)), va(1))
	vars := term.Vars(a)
	binds, _, _ := term.Solve(a, co("f", co("h", va(4)), va(3), va(5)))
	items, _ := term.Items(list(at("[]"), a, a))
	was := texts(binds)
	for i := range int64(50) {
		term.Vars(co("f", va(i+1), va(i+2)))
		term.Solve(a, co("f", nu(i), va(3), va(5)))
		term.Items(list(at("[]"), nu(i), nu(i)))
	}
	if !slices.Equal(vars, []int64{1, 2}) || texts(binds) != was || !tidy(items[0], a) || !tidy(items[1], a) {
		t.Errorf("%v; %s, not %s; %s", vars, texts(binds), was, text(items[0]))
	}
	clear(vars[:cap(vars)])
	clear(binds[:cap(binds)])
	clear(items[:cap(items)])
	if !slices.Equal(term.Vars(a), []int64{1, 2}) || !tidy(a, co("f", va(1), co("g", va(2)), va(1))) {
		t.Errorf("%s has the variables %v", text(a), term.Vars(a))
	}
}

// P2: what is answered doesn't hang on a map's order.
func TestAlways(t *testing.T) {
	a, b := chained(1, 8)
	x, y := folded(a), folded(b)
	want, _, _ := term.Solve(x, y)
	for range 50 {
		if got, _, _ := term.Solve(x, y); !tidyBinds(got, want) || len(got) != 8 {
			t.Fatalf("%s, then %s", texts(want), texts(got))
		}
	}
}
