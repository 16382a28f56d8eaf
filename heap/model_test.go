package heap_test

import (
	"maps"
	"math/rand"
	"slices"
	"strconv"
	"testing"

	"pythia/api"
	"pythia/heap"
	"pythia/term"
)

// plain is a heap as the chapter has it: at each address the term that was put there, in which a variable's number is one above its address; and a solution, in which no variable that is bound stands in any of the terms.
type plain struct {
	most     int
	trail    int
	terms    []api.Term
	solution map[int64]api.Term
	marks    []plainMark
}

// plainMark is how everything was.
type plainMark struct {
	cells    int
	solution map[int64]api.Term
}

// in is a term with the bound variables' terms in it.
func (p *plain) in(t api.Term) api.Term {
	if to, ok := p.solution[t.Int]; t.Kind == api.Var && ok {
		return to
	}
	args := slices.Clone(t.Args)
	for i, arg := range args {
		args[i] = p.in(arg)
	}
	t.Args = args
	return t
}

func (p *plain) put(t api.Term, env []int) (int, []int, api.Errno) {
	if term.Check(t) != api.OK {
		return 0, nil, api.ErrTerm
	}
	if len(env) > 2000 {
		return 0, nil, api.ErrArg
	}
	stands := slices.Clone(env)
	for i := range stands {
		stands[i] = max(stands[i], -1)
	}
	for _, v := range term.Vars(t) {
		if v > 2000 || int(v) <= len(env) && env[v-1] >= len(p.terms) {
			return 0, nil, api.ErrArg
		}
		for len(stands) < int(v) {
			stands = append(stands, -1)
		}
	}
	if len(p.terms)+term.Size(t) > p.most {
		return 0, nil, api.ErrHeap
	}
	at := len(p.terms)
	p.add(t, stands)
	return at, stands, api.OK
}

// add adds a term's parts, from the left to the right.
func (p *plain) add(t api.Term, stands []int) api.Term {
	at := len(p.terms)
	p.terms = append(p.terms, api.Term{})
	switch {
	case t.Kind == api.Var && stands[t.Int-1] < 0:
		stands[t.Int-1] = at
		t = va(int64(at) + 1)
	case t.Kind == api.Var:
		t = p.terms[stands[t.Int-1]]
	case t.Kind == api.Comp:
		args := slices.Clone(t.Args)
		for i, arg := range args {
			args[i] = p.add(arg, stands)
		}
		t = co(t.Name, args...)
	}
	p.terms[at] = t
	return t
}

func (p *plain) has(at int) bool { return at >= 0 && at < len(p.terms) }

func (p *plain) take(at int) (api.Term, api.Errno) {
	if !p.has(at) {
		return api.Term{}, api.ErrArg
	}
	t := p.in(p.terms[at])
	if term.Check(t) != api.OK {
		return api.Term{}, api.ErrLong
	}
	return t, api.OK
}

func (p *plain) unify(a, b int) (bool, api.Errno) {
	if !p.has(a) || !p.has(b) {
		return false, api.ErrArg
	}
	was := maps.Clone(p.solution)
	if !p.solve(p.terms[a], p.terms[b]) {
		p.solution = was
		return false, api.OK
	}
	if len(p.solution) > p.trail {
		p.solution = was
		return false, api.ErrTrail
	}
	return true, api.OK
}

// holds tells whether a variable stands in a term.
func holds(t api.Term, v int64) bool {
	return t.Kind == api.Var && t.Int == v || slices.ContainsFunc(t.Args, func(arg api.Term) bool { return holds(arg, v) })
}

// solve lets the solution grow so that two terms become the same.
func (p *plain) solve(a, b api.Term) bool {
	a, b = p.in(a), p.in(b)
	switch {
	case same(a, b):
		return true
	case a.Kind == api.Var && (b.Kind != api.Var || a.Int > b.Int):
		return p.bind(a.Int, b)
	case b.Kind == api.Var:
		return p.bind(b.Int, a)
	case a.Kind != b.Kind || a.Name != b.Name || a.Int != b.Int || len(a.Args) != len(b.Args):
		return false
	}
	for i, arg := range a.Args {
		if !p.solve(arg, b.Args[i]) {
			return false
		}
	}
	return true
}

// bind binds a variable that isn't bound yet.
func (p *plain) bind(v int64, to api.Term) bool {
	if holds(to, v) {
		return false
	}
	one := plain{solution: map[int64]api.Term{v: to}}
	for w, t := range p.solution {
		p.solution[w] = one.in(t)
	}
	p.solution[v] = to
	return true
}

func (p *plain) undo(m int) api.Errno {
	if m < 1 || m > len(p.marks) {
		return api.ErrArg
	}
	p.marks = p.marks[:m]
	was := p.marks[m-1]
	p.terms, p.solution = p.terms[:was.cells], maps.Clone(was.solution)
	return api.OK
}

func (p *plain) keep(m int) api.Errno {
	if m < 1 || m > len(p.marks) {
		return api.ErrArg
	}
	p.marks = p.marks[:m-1]
	return api.OK
}

// anyTerm is some term at most so deep, over few symbols.
func anyTerm(r *rand.Rand, depth, vars int) api.Term {
	k := r.Intn(10)
	switch {
	case k < 4 && vars > 0:
		return va(1 + int64(r.Intn(vars)))
	case k < 5:
		return nu(int64(r.Intn(2)))
	case k < 6 || depth < 2:
		return at([]string{"a", "b"}[r.Intn(2)])
	case k < 8:
		return co("s", anyTerm(r, depth-1, vars))
	}
	return co([]string{"f", "."}[r.Intn(2)], anyTerm(r, depth-1, vars), anyTerm(r, depth-1, vars))
}

// pair is a heap and the plain one, on which the same calls are made.
type pair struct {
	*testing.T
	h    *heap.Heap
	p    *plain
	told map[string]int
}

// alike fails, if the two differ in anything that can be told.
func (w *pair) alike() {
	w.Helper()
	used(w.T, w.h, len(w.p.terms), len(w.p.solution), len(w.p.marks))
	for a := -1; a <= len(w.p.terms); a++ {
		got, e := w.h.Take(a)
		if want, err := w.p.take(a); !same(got, want) || e != err {
			w.Fatalf("Take(%d) = %s, %d, not %s, %d", a, text(got), e, text(want), err)
		}
	}
}

// call makes some call on both.
func (w *pair) call(r *rand.Rand) {
	w.Helper()
	cells := len(w.p.terms)
	some := func() int { return r.Intn(cells+4) - 1 }
	mark := r.Intn(len(w.p.marks)+3) - 1
	switch k := r.Intn(20); {
	case k < 6:
		w.put(r, some)
	case k < 15:
		a, b := some(), some()
		ok, e := w.h.Unify(a, b)
		if want, err := w.p.unify(a, b); ok != want || e != err {
			w.Fatalf("Unify(%d, %d) = %v, %d, not %v, %d", a, b, ok, e, want, err)
		}
		w.count("Unify", e)
		if ok {
			w.told["true"]++
		}
	case k < 17:
		w.p.marks = append(w.p.marks, plainMark{cells: cells, solution: maps.Clone(w.p.solution)})
		if m := w.h.Mark(); m != len(w.p.marks) {
			w.Fatalf("Mark = %d", m)
		}
	case k < 19:
		e := w.h.Undo(mark)
		if err := w.p.undo(mark); e != err {
			w.Fatalf("Undo(%d) = %d, not %d", mark, e, err)
		}
		w.count("Undo", e)
	default:
		e := w.h.Keep(mark)
		if err := w.p.keep(mark); e != err {
			w.Fatalf("Keep(%d) = %d, not %d", mark, e, err)
		}
		w.count("Keep", e)
	}
}

// put puts some term in, whose variables stand for some addresses.
func (w *pair) put(r *rand.Rand, some func() int) {
	w.Helper()
	t := anyTerm(r, 3, 5)
	switch r.Intn(60) {
	case 0:
		t = co("f", t, api.Term{})
	case 1:
		t = co("f", t, va(2001))
	}
	var env []int
	for range r.Intn(6) {
		env = append(env, some())
		if r.Intn(2) == 0 {
			env[len(env)-1] = r.Intn(len(w.p.terms)+1) - 1
		}
	}
	at, stands, e := w.h.Put(untidy(t), env...)
	if a, want, err := w.p.put(t, env); at != a || !slices.Equal(stands, want) || e != err {
		w.Fatalf("Put(%s, %v) = %d, %v, %d, not %d, %v, %d", text(t), env, at, stands, e, a, want, err)
	}
	w.count("Put", e)
}

func (w *pair) count(call string, e api.Errno) { w.told[call+" "+strconv.Itoa(int(e))]++ }

// P13.1, P13.2: in every order of calls a heap is as plain terms with a solution that grows.
func TestModel(t *testing.T) {
	told := map[string]int{}
	for seed := range int64(600) {
		r := rand.New(rand.NewSource(seed))
		most, trail := 10+r.Intn(40), r.Intn(12)
		w := &pair{T: t, h: heap.New(most, trail), p: &plain{most: most, trail: trail, solution: map[int64]api.Term{}}, told: told}
		for range 120 {
			w.call(r)
			w.alike()
		}
	}
	for _, what := range []string{"Put 0", "Put 1", "Put 70", "Put 130", "Unify 0", "Unify 1", "Unify 131", "true", "Undo 0", "Undo 1", "Keep 0", "Keep 1"} {
		if told[what] < 200 {
			t.Errorf("%s: %d times", what, told[what])
		}
	}
}

// P13.1: two heaps share nothing, and calls on one change nothing of the other one.
func TestTwoHeaps(t *testing.T) {
	var both [2]*pair
	for i := range both {
		both[i] = &pair{T: t, h: heap.New(40+i, 10), p: &plain{most: 40 + i, trail: 10, solution: map[int64]api.Term{}}, told: map[string]int{}}
	}
	r := rand.New(rand.NewSource(134))
	for range 2000 {
		both[r.Intn(2)].call(r)
		both[0].alike()
		both[1].alike()
	}
}
