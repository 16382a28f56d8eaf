package heap_test

import (
	"math/rand"
	"slices"
	"testing"

	"pythia/api"
	"pythia/heap"
)

// roomy is a term in new memory, whose lists of arguments have spare room with a mark in it.
func roomy(t api.Term) api.Term {
	if t.Kind != api.Comp {
		return t
	}
	args := make([]api.Term, 0, len(t.Args)+1)
	for _, arg := range t.Args {
		args = append(args, roomy(arg))
	}
	t.Args = append(args, at("spare"))[:len(args)]
	return t
}

// unspoilt tells whether a term that roomy made is still the one that it was made of, its spare room too.
func unspoilt(t, was api.Term) bool {
	if t.Kind != was.Kind || t.Name != was.Name || t.Int != was.Int || len(t.Args) != len(was.Args) {
		return false
	}
	return t.Kind != api.Comp || same(t.Args[:len(t.Args)+1][len(t.Args)], at("spare")) && slices.EqualFunc(t.Args, was.Args, unspoilt)
}

// spoil writes over all memory of a term, its spare room too.
func spoil(t api.Term) {
	for i := range t.Args {
		spoil(t.Args[i])
	}
	all := t.Args[:cap(t.Args)]
	for i := range all {
		all[i] = nu(-99)
	}
}

// all are the terms at all addresses of a heap.
func all(h *heap.Heap) []api.Term {
	cells, _, _ := h.Used()
	var ts []api.Term
	for a := range cells {
		t, _ := h.Take(a)
		ts = append(ts, t)
	}
	return ts
}

// P13.3: what is handed in isn't changed, and may be written over; what is answered, too.
func TestMemory(t *testing.T) {
	r := rand.New(rand.NewSource(135))
	for range 2000 {
		h, twin := heap.New(1000, 1000), heap.New(1000, 1000)
		var tops []int
		for range 1 + r.Intn(5) {
			u := anyTerm(r, 4, 4)
			x := roomy(u)
			env := make([]int, 0, 8)
			for range r.Intn(6) {
				env = append(env, append(tops, -1)[r.Intn(len(tops)+1)])
			}
			spare := env[:cap(env)]
			for i := len(env); i < len(spare); i++ {
				spare[i] = -8
			}
			was := slices.Clone(spare)
			top, stands, _ := h.Put(x, env...)
			if !unspoilt(x, u) || !slices.Equal(spare, was) {
				t.Fatalf("Put(%s, %v) changed %v", text(u), was, spare)
			}
			_, want, _ := twin.Put(u, was[:len(env)]...)
			spoil(x)
			for i := range spare {
				spare[i] = 0
			}
			if !slices.Equal(stands, want) {
				t.Fatalf("%v hang on what was handed in: %v", stands, want)
			}
			for i := range stands[:cap(stands)] {
				stands[:cap(stands)][i] = 0
			}
			tops = append(tops, top)
		}
		a, b := tops[r.Intn(len(tops))], tops[r.Intn(len(tops))]
		h.Unify(a, b)
		twin.Unify(a, b)
		held := all(h)
		for _, u := range all(h) {
			spoil(u)
		}
		if !slices.EqualFunc(held, all(twin), same) || !slices.EqualFunc(all(h), held, same) {
			t.Fatalf("%v, not %v", all(h), all(twin))
		}
	}
}

// P13.3: terms that were taken stay as they were, whatever becomes of the heap.
func TestHeld(t *testing.T) {
	h := heap.New(100, 100)
	m := h.Mark()
	a, stands := put(t, h, co("f", va(1), co("g", va(2)), va(1)))
	held, _ := h.Take(a)
	b, _ := put(t, h, co("h", nu(1)))
	unifies(t, h, stands[0], b, true, api.OK)
	unifies(t, h, stands[1], b, true, api.OK)
	h.Undo(m)
	puts(t, h, co("x", nu(1), nu(2), nu(3), nu(4)), nil, 0)
	if !same(held, co("f", va(2), co("g", va(4)), va(2))) || !slices.Equal(stands, []int{1, 3}) {
		t.Errorf("%s, %v", text(held), stands)
	}
}

// P13.3: an answered list is new also where it says just what was handed in.
func TestNewEnv(t *testing.T) {
	h := heap.New(100, 100)
	env := []int{0, -1, 0}
	put(t, h, at("a"))
	_, stands := put(t, h, at("b"), env...)
	stands[0], stands[1], stands[2] = 7, 7, 7
	if !slices.Equal(env, []int{0, -1, 0}) {
		t.Errorf("%v", env)
	}
	_, stands = put(t, h, co("f", va(1), va(2)), env...)
	if !slices.Equal(env, []int{0, -1, 0}) || !slices.Equal(stands, []int{0, 4, 0}) {
		t.Errorf("%v, %v", env, stands)
	}
}

// apart fails, if two lists of arguments in a term share memory, spare room too.
func apart(t *testing.T, seen map[*api.Term]int, u api.Term) {
	t.Helper()
	room := u.Args[:cap(u.Args)]
	for i := range room {
		if seen[&room[i]]++; seen[&room[i]] > 1 {
			t.Fatalf("%s shares memory", text(u))
		}
	}
	for _, arg := range u.Args {
		apart(t, seen, arg)
	}
}

// P13.3: no two lists of one answer share memory, also where parts are one in the heap.
func TestApart(t *testing.T) {
	h := heap.New(100, 100)
	g, _ := put(t, h, co("g", va(1), nu(2)))
	a, stands := put(t, h, co("f", va(1), va(1), va(2), co("h", va(2), va(3))), g)
	unifies(t, h, stands[1], g, true, api.OK)
	unifies(t, h, stands[2], g, true, api.OK)
	u, e := h.Take(a)
	if part := co("g", va(2), nu(2)); e != api.OK || !same(u, co("f", part, part, part, co("h", part, part))) {
		t.Fatalf("%s, %d", text(u), e)
	}
	apart(t, map[*api.Term]int{}, u)
}
