package post_test

import (
	"math/rand"
	"slices"
	"testing"

	"pythia/api"
	"pythia/post"
)

// roomy is a term in new memory, whose lists of arguments have spare room with a mark in it.
func roomy(t api.Term) api.Term {
	if t.Kind != api.Comp {
		return t
	}
	args := make([]api.Term, 0, len(t.Args)+1)
	for _, arg := range t.Args {
		args = append(args, roomy(arg))
	}
	t.Args = append(args, at("spare"))[:len(args)]
	return t
}

// unspoilt tells whether a term that roomy made is still the one that it was made of, its spare room too.
func unspoilt(t, was api.Term) bool {
	if t.Kind != was.Kind || t.Name != was.Name || t.Int != was.Int || len(t.Args) != len(was.Args) {
		return false
	}
	return t.Kind != api.Comp || same(t.Args[:len(t.Args)+1][len(t.Args)], at("spare")) && slices.EqualFunc(t.Args, was.Args, unspoilt)
}

// spoil writes over all memory of a term, its spare room too.
func spoil(t api.Term) {
	for i := range t.Args {
		spoil(t.Args[i])
	}
	all := t.Args[:cap(t.Args)]
	for i := range all {
		all[i] = nu(-99)
	}
}

// asks asks for a pattern in memory of its own, and fails, if that is changed; both it and what is answered are written over behind the call.
func asks(t *testing.T, ask asker, pattern, want api.Term, err api.Errno) {
	t.Helper()
	handed := roomy(pattern)
	got, e := ask(1, handed)
	if !unspoilt(handed, pattern) {
		t.Fatalf("the pattern %s was changed", text(pattern))
	}
	spoil(handed)
	if !same(got, want) || e != err {
		t.Fatalf("asked for %s: %s, %d, not %s, %d", text(pattern), text(got), e, text(want), err)
	}
	spoil(got)
}

// P14.3: messages are neither changed nor kept as they were handed in; what is answered is new memory, and so are patterns let be.
func TestMemory(t *testing.T) {
	r := rand.New(rand.NewSource(143))
	for range 300 {
		p := box(t, 10)
		var kept []api.Term
		for range 10 {
			u := anyTerm(r, 4, 3)
			x := roomy(u)
			sends(t, p, 1, x, api.OK)
			if !unspoilt(x, u) {
				t.Fatalf("the message %s was changed", text(u))
			}
			spoil(x)
			kept = append(kept, named(u, map[int64]int64{}))
		}
		u := anyTerm(r, 4, 3)
		x := roomy(u)
		sends(t, p, 1, x, api.ErrWait)
		if !unspoilt(x, u) {
			t.Fatalf("the message %s that was refused was changed", text(u))
		}
		for len(kept) > 0 {
			pattern := anyTerm(r, 3, 3)
			i := slices.IndexFunc(kept, func(message api.Term) bool { return fit(message, pattern) })
			if i < 0 {
				asks(t, p.Peek, pattern, api.Term{}, api.ErrWait)
				asks(t, p.Get, pattern, api.Term{}, api.ErrWait)
				continue
			}
			asks(t, p.Peek, pattern, kept[i], api.OK)
			asks(t, p.Peek, pattern, kept[i], api.OK)
			asks(t, p.Get, pattern, kept[i], api.OK)
			kept = slices.Delete(kept, i, i+1)
		}
		has(t, p, 1, 0)
	}
}

// P14.3: what is held stays as it is, whatever becomes of the queue.
func TestHeld(t *testing.T) {
	p := box(t, 3)
	for i := range int64(3) {
		sends(t, p, 1, co("m", nu(i), co("g", va(5))), api.OK)
	}
	peeked, _ := p.Peek(1, va(1))
	got, _ := p.Get(1, co("m", nu(1), va(1)))
	for i := range int64(50) {
		p.Get(1, va(1))
		sends(t, p, 1, co("x", nu(i+10), co("y", at("z"))), api.OK)
	}
	drops(t, p, 1, api.OK)
	if g := co("g", va(1)); !same(peeked, co("m", nu(0), g)) || !same(got, co("m", nu(1), g)) {
		t.Errorf("%s, %s", text(peeked), text(got))
	}
}

// P14.3: Queues is new memory.
func TestNewQueues(t *testing.T) {
	p := post.New()
	for q := 1; q <= 5; q++ {
		makes(t, p, 1, q)
	}
	held := p.Queues()
	for range 3 {
		got := p.Queues()
		for i := range got[:cap(got)] {
			got[:cap(got)][i] = 9
		}
		there(t, p, 1, 2, 3, 4, 5)
	}
	drops(t, p, 2, api.OK)
	if !slices.Equal(held, []int{1, 2, 3, 4, 5}) {
		t.Errorf("what was held has become %v", held)
	}
}

// apart fails, if two lists of arguments in terms share memory, spare room too.
func apart(t *testing.T, seen map[*api.Term]int, terms ...api.Term) {
	t.Helper()
	for _, u := range terms {
		room := u.Args[:cap(u.Args)]
		for i := range room {
			if seen[&room[i]]++; seen[&room[i]] > 1 {
				t.Fatalf("%s shares memory", text(u))
			}
		}
		apart(t, seen, u.Args...)
	}
}

// P14.3: no two lists of an answer, nor of two answers, share memory, also where the message's did.
func TestApart(t *testing.T) {
	p := box(t, 2)
	message := co("f", doubled(va(1), 3), doubled(va(2), 3))
	sends(t, p, 1, message, api.OK)
	sends(t, p, 1, message, api.OK)
	seen := map[*api.Term]int{}
	for _, ask := range []asker{p.Peek, p.Peek, p.Get, p.Peek, p.Get} {
		got, e := ask(1, co("f", doubled(at("a"), 3), va(1)))
		if e != api.OK {
			t.Fatalf("%d", e)
		}
		apart(t, seen, got)
	}
}

// P2: what is answered doesn't hang on a map's order.
func TestAlways(t *testing.T) {
	for range 100 {
		p := post.New()
		for q := 1; q <= 8; q++ {
			makes(t, p, 1, q)
		}
		there(t, p, 1, 2, 3, 4, 5, 6, 7, 8)
	}
}
