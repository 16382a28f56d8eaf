package pure_test

import (
	"math/rand"
	"reflect"
	"slices"
	"testing"

	"pythia/api"
	"pythia/pure"
)

// roomy is a term in new memory, whose lists of arguments have spare room with a mark in it.
func roomy(t api.Term) api.Term {
	if t.Kind != api.Comp {
		return t
	}
	args := make([]api.Term, 0, len(t.Args)+1)
	for _, arg := range t.Args {
		args = append(args, roomy(arg))
	}
	t.Args = append(args, at("spare"))[:len(args)]
	return t
}

// unspoilt tells whether a term that roomy made is still the one that it was made of, its spare room too.
func unspoilt(t, was api.Term) bool { return reflect.DeepEqual(spread(t), spread(roomy(was))) }

// spread is all memory of a term, its spare room too.
func spread(t api.Term) []any {
	all := []any{t.Kind, t.Name, t.Int, len(t.Args)}
	for _, arg := range t.Args[:cap(t.Args)] {
		all = append(all, spread(arg))
	}
	return all
}

// spoil writes over all memory of terms, their spare room too.
func spoil(terms ...api.Term) {
	for _, t := range terms {
		spoil(t.Args...)
		room := t.Args[:cap(t.Args)]
		for i := range room {
			room[i] = nu(-99)
		}
	}
}

// spoilOut writes over all that is told.
func spoilOut(out pure.Out) {
	for _, ts := range [][]api.Term{out.Left, out.Right, {out.Ball}} {
		spoil(ts...)
		room := ts[:cap(ts)]
		for i := range room {
			room[i] = nu(-99)
		}
	}
}

// goals are some goals that have lists or balls to tell, of each sort.
func goals(r *rand.Rand) []api.Term {
	f, g := co("f", va(1), co("g", va(2), nu(3))), co("h", co("k", va(1)), va(5))
	all := []api.Term{
		co("=", f, g),
		co("is", f, nu(1)),
		co("is", va(1), f),
		co("compare", f, g, f),
		co("functor", f, g, list(g)),
		co("functor", va(9), at("f"), nu(8)),
		co("functor", va(9), at("f"), f),
		co("functor", va(9), f, nu(1)),
		co("arg", nu(2), f, g),
		co("arg", f, g, va(9)),
		co("=..", f, g),
		co("=..", f, va(9)),
		co("=..", va(9), list(at("f"), f, g)),
		co("=..", va(9), list(f)),
		co("=..", va(9), list(f, g)),
		co("=..", va(9), co("l", f, g)),
		co("=..", va(9), list(g, f)),
		co("copy_term", f, g),
	}
	for range 4000 {
		all = append(all, anyGoal(r))
	}
	return all
}

// P17.4: answers hold while arguments are written over, and arguments while answers are.
func TestMemory(t *testing.T) {
	for _, goal := range goals(rand.New(rand.NewSource(174))) {
		mine := roomy(goal)
		want, _ := pure.Do(goal)
		held, _ := pure.Do(mine)
		if !sameOut(held, want) || !unspoilt(mine, goal) {
			t.Fatalf("%s was changed", text(goal))
		}
		spoil(mine)
		if !sameOut(held, want) {
			t.Fatalf("%s: %s hangs on the goal", text(goal), textOut(held))
		}
		mine = roomy(goal)
		held, _ = pure.Do(mine)
		spoilOut(held)
		again, _ := pure.Do(mine)
		if !unspoilt(mine, goal) || !sameOut(again, want) {
			t.Fatalf("%s hangs on an answer, or a later answer on it", text(goal))
		}
	}
}

// apart fails, if two lists share memory, spare room too.
func apart(t *testing.T, seen map[*api.Term]int, ts []api.Term) {
	t.Helper()
	room := ts[:cap(ts)]
	for i := range room {
		if seen[&room[i]]++; seen[&room[i]] > 1 {
			t.Fatalf("%s shares memory", texts(ts))
		}
	}
	for _, u := range ts {
		apart(t, seen, u.Args)
	}
}

// P17.4: no two lists of one answer share memory, even if the goal's do.
func TestApart(t *testing.T) {
	shared := co("g", va(1), co("k", nu(2)))
	f := co("f", shared, shared)
	all := []api.Term{co("=", shared, shared), co("=", f, f), co("arg", nu(1), f, shared), co("arg", nu(1), f, f), co("=..", f, shared), co("=..", va(9), list(at("f"), shared, shared)), co("copy_term", f, shared), co("copy_term", f, f), co("functor", f, shared, shared), co("is", f, nu(1)), co("functor", va(9), f, nu(1)), co("=..", va(9), f)}
	for _, goal := range slices.Concat(all, goals(rand.New(rand.NewSource(1741)))) {
		out, _ := pure.Do(goal)
		seen := map[*api.Term]int{}
		apart(t, seen, out.Left)
		apart(t, seen, out.Right)
		apart(t, seen, out.Ball.Args)
	}
}

// P2: the same goal is told the same, whatever was done between.
func TestAlways(t *testing.T) {
	r := rand.New(rand.NewSource(2))
	all := goals(r)
	var told []pure.Out
	for _, goal := range all {
		out, _ := pure.Do(goal)
		told = append(told, out)
	}
	for _, i := range r.Perm(len(all)) {
		if again, ok := pure.Do(all[i]); !sameOut(again, told[i]) || !ok {
			t.Fatalf("%s: %s, then %s", text(all[i]), textOut(told[i]), textOut(again))
		}
	}
}
