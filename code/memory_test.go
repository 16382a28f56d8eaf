package code_test

import (
	"math/rand"
	"reflect"
	"testing"

	"pythia/api"
	"pythia/code"
)

// P18.4: answers hold while arguments are written over, and arguments while answers are.
func TestMemory(t *testing.T) {
	for _, c := range inputs(rand.New(rand.NewSource(184)), 3000) {
		want, wantGoal := modelled(c.Head, c.Body), modelledGoal(c.Body)
		mine := cl(roomy(c.Head), roomy(c.Body))
		one := compiled(t, mine)
		other := goal(t, mine.Body)
		if !unspoilt(mine.Head, c.Head) || !unspoilt(mine.Body, c.Body) {
			t.Fatalf("%s :- %s was changed", text(c.Head), text(c.Body))
		}
		spoil(mine.Head, mine.Body)
		if !sameCode(one, want) || !sameCode(other, wantGoal) {
			t.Fatalf("%s and %s hang on the arguments", listing(one), listing(other))
		}
		mine = cl(roomy(c.Head), roomy(c.Body))
		spoilCode(compiled(t, mine))
		spoilCode(goal(t, mine.Body))
		if !unspoilt(mine.Head, c.Head) || !unspoilt(mine.Body, c.Body) {
			t.Fatalf("%s :- %s hangs on an answer", text(c.Head), text(c.Body))
		}
		if !sameCode(compiled(t, mine), want) || !sameCode(goal(t, mine.Body), wantGoal) {
			t.Fatalf("a later answer about %s :- %s hangs on an earlier one", text(c.Head), text(c.Body))
		}
	}
}

// apart fails, if two lists of arguments share memory, spare room too.
func apart(t *testing.T, seen map[*api.Term]int, terms ...api.Term) {
	t.Helper()
	for _, u := range terms {
		room := u.Args[:cap(u.Args)]
		for i := range room {
			if seen[&room[i]]++; seen[&room[i]] > 1 {
				t.Fatalf("%.200s shares memory", text(u))
			}
		}
		apart(t, seen, u.Args...)
	}
}

// P18.4: no two lists of one answer share memory, even if the arguments' do; no two answers do.
func TestApart(t *testing.T) {
	part := co("f", va(1), co("g", nu(2)))
	both := co(";", co("->", part, part), co(",", part, part))
	all := append(inputs(rand.New(rand.NewSource(1841)), 500), cl(co("p", part, part, both), both), cl(part, part), cl(both, co(`\+`, both)))
	for _, c := range all {
		seen := map[*api.Term]int{}
		for range 2 {
			for _, i := range compiled(t, c).Ins {
				apart(t, seen, i.T)
			}
			for _, i := range goal(t, c.Body).Ins {
				apart(t, seen, i.T)
			}
		}
		a, b := compiled(t, c), compiled(t, c)
		if &a.Ins[0] == &b.Ins[0] {
			t.Fatalf("two answers share memory")
		}
	}
}

// P18.4: fields that a term's kind doesn't name are zero in what is answered.
func TestTidy(t *testing.T) {
	for _, c := range inputs(rand.New(rand.NewSource(1842)), 2000) {
		if got := compiled(t, cl(untidy(c.Head), untidy(c.Body))); !sameCode(got, modelled(c.Head, c.Body)) {
			t.Fatalf("%s :- %s: %s", text(c.Head), text(c.Body), listing(got))
		}
		if got := goal(t, untidy(c.Body)); !sameCode(got, modelledGoal(c.Body)) {
			t.Fatalf("%s: %s", text(c.Body), listing(got))
		}
	}
}

// copied is code in new memory, whose lists have spare room with a mark in it.
func copied(c code.Code) code.Code {
	ins := make([]code.Ins, 0, len(c.Ins)+1)
	for _, i := range c.Ins {
		i.T = roomy(i.T)
		ins = append(ins, i)
	}
	c.Ins = append(ins, code.Ins{Op: 77})[:len(ins)]
	return c
}

// P18.4: Right changes nothing.
func TestRightMemory(t *testing.T) {
	r := rand.New(rand.NewSource(1843))
	for range 2000 {
		was := anyCode(r)
		c := copied(was)
		code.Right(c)
		again := copied(was)
		if !reflect.DeepEqual(c, again) || !reflect.DeepEqual(c.Ins[:cap(c.Ins)], again.Ins[:cap(again.Ins)]) {
			t.Fatalf("%s was changed", listing(was))
		}
		for place, i := range c.Ins {
			if !unspoilt(i.T, was.Ins[place].T) {
				t.Fatalf("%s was changed at %d", listing(was), place)
			}
		}
	}
}

// P2: the same is answered the same, whatever was asked between.
func TestAlways(t *testing.T) {
	r := rand.New(rand.NewSource(2))
	all := inputs(r, 1000)
	var told []code.Code
	for _, c := range all {
		told = append(told, compiled(t, c))
	}
	for _, i := range r.Perm(len(all)) {
		if again := compiled(t, all[i]); !sameCode(again, told[i]) {
			t.Fatalf("%s, then %s", listing(told[i]), listing(again))
		}
	}
}
