package post_test

import (
	"math"
	"slices"
	"strings"
	"testing"

	"pythia/api"
	"pythia/post"
)

// P14.1: the chapter's example.
func TestExample(t *testing.T) {
	p := post.New()
	there(t, p)
	makes(t, p, 2, 1)
	there(t, p, 1)
	has(t, p, 1, 0)
	sends(t, p, 1, co("a", nu(1)), api.OK)
	sends(t, p, 1, at("b"), api.OK)
	sends(t, p, 1, at("c"), api.ErrWait)
	has(t, p, 1, 2)
	answers(t, p.Get, 1, at("b"), at("b"))
	has(t, p, 1, 1)
	answers(t, p.Peek, 1, va(1), co("a", nu(1)))
	has(t, p, 1, 1)
	refuses(t, p.Get, 1, co("a", nu(2)), api.ErrWait)
	has(t, p, 1, 1)
	drops(t, p, 1, api.OK)
	there(t, p)
}

// P14.1: how many messages a queue may have.
func TestMost(t *testing.T) {
	for most, want := range map[int]int{
		math.MinInt: 1, -1: 1, 0: 1, 1: 1, 2: 2, 63: 63, 64: 64, 65: 64, 1 << 32: 64, math.MaxInt: 64,
	} {
		p := box(t, most)
		for n := range want {
			sends(t, p, 1, nu(int64(n)), api.OK)
			has(t, p, 1, n+1)
		}
		for range 2 {
			sends(t, p, 1, at("more"), api.ErrWait)
			has(t, p, 1, want)
		}
		for n := range want {
			answers(t, p.Get, 1, va(1), nu(int64(n)))
		}
		refuses(t, p.Get, 1, va(1), api.ErrWait)
		has(t, p, 1, 0)
	}
}

// P14.1: how many queues there may be, and that no number comes again.
func TestNumbers(t *testing.T) {
	p := post.New()
	for q := 1; q <= 8; q++ {
		makes(t, p, q, q)
	}
	for _, most := range []int{1, 0, math.MinInt, math.MaxInt} {
		if q, e := p.Make(most); q != 0 || e != api.ErrMany {
			t.Errorf("Make(%d) of a ninth = %d, %d", most, q, e)
		}
	}
	there(t, p, 1, 2, 3, 4, 5, 6, 7, 8)
	drops(t, p, 8, api.OK)
	drops(t, p, 3, api.OK)
	there(t, p, 1, 2, 4, 5, 6, 7)
	drops(t, p, 3, api.ErrQueue)
	// What was refused has taken no number; what was dropped doesn't give its own back.
	makes(t, p, 1, 9)
	makes(t, p, 1, 10)
	there(t, p, 1, 2, 4, 5, 6, 7, 9, 10)
	if q, e := p.Make(1); q != 0 || e != api.ErrMany {
		t.Errorf("Make of a ninth again = %d, %d", q, e)
	}
	for _, q := range p.Queues() {
		drops(t, p, q, api.OK)
	}
	there(t, p)
	for q := 11; q <= 100; q++ {
		makes(t, p, 1, q)
		there(t, p, q)
		sends(t, p, q, nu(int64(q)), api.OK)
		drops(t, p, q, api.OK)
		there(t, p)
	}
}

// P14.1: a queue that there isn't is told first of all, and nothing is changed.
func TestNoQueue(t *testing.T) {
	p := post.New()
	for range 4 {
		p.Make(1)
	}
	p.Drop(2)
	p.Send(1, at("a"))
	p.Drop(4)
	terms := wrong()
	terms["a right one"], terms["a variable"] = at("a"), va(1)
	for _, q := range []int{0, 2, 4, 5, 9, -1, -3, 1<<32 + 1, math.MinInt, math.MaxInt} {
		for name, u := range terms {
			if e := p.Send(q, u); e != api.ErrQueue {
				t.Errorf("Send(%d, %s) = %d", q, name, e)
			}
			refuses(t, p.Get, q, u, api.ErrQueue)
			refuses(t, p.Peek, q, u, api.ErrQueue)
		}
		if n, e := p.Len(q); n != 0 || e != api.ErrQueue {
			t.Errorf("Len(%d) = %d, %d", q, n, e)
		}
		drops(t, p, q, api.ErrQueue)
		there(t, p, 1, 3)
	}
	has(t, p, 1, 1)
	has(t, p, 3, 0)
	makes(t, p, 1, 5)
}

// P14.1, P14.3: terms and patterns that aren't right, ahead of a queue's being full or without what fits.
func TestNotRight(t *testing.T) {
	p := post.New()
	makes(t, p, 2, 1)
	makes(t, p, 1, 2)
	makes(t, p, 5, 3)
	sends(t, p, 2, at("a"), api.OK)
	sends(t, p, 3, at("a"), api.OK)
	sends(t, p, 3, va(7), api.OK)
	for name, u := range wrong() {
		for q, n := range map[int]int{1: 0, 2: 1, 3: 2} {
			if e := p.Send(q, u); e != api.ErrTerm {
				t.Errorf("Send(%d, %s) = %d", q, name, e)
			}
			refuses(t, p.Get, q, u, api.ErrTerm)
			refuses(t, p.Peek, q, u, api.ErrTerm)
			has(t, p, q, n)
		}
	}
	answers(t, p.Get, 3, va(1), at("a"))
	answers(t, p.Get, 3, va(1), va(1))
	answers(t, p.Get, 2, va(1), at("a"))
}

// P14.1: terms as great as may be are messages and patterns.
func TestJustRight(t *testing.T) {
	long := strings.Repeat("x", 64)
	for _, u := range []api.Term{
		at(""), at(long), nu(math.MinInt64), nu(0), co(long, at(long)), co("", at("")), tower(at("a"), 99), tower(va(1), 99),
		sized(2000, always(at("a"))), sized(2000, always(va(1))), sized(2000, from(1)), co("f", slices.Repeat([]api.Term{at("a")}, 8)...),
	} {
		p := box(t, 1)
		sends(t, p, 1, untidy(u), api.OK)
		answers(t, p.Peek, 1, untidy(u), u)
		answers(t, p.Get, 1, u, u)
		has(t, p, 1, 0)
	}
}

// P14.1: a queue that is full has room again behind a Get, and not behind a Peek or a Get of what doesn't fit.
func TestRoom(t *testing.T) {
	p := box(t, 3)
	for i := range int64(3) {
		sends(t, p, 1, nu(i), api.OK)
	}
	answers(t, p.Peek, 1, nu(1), nu(1))
	sends(t, p, 1, nu(3), api.ErrWait)
	refuses(t, p.Get, 1, nu(3), api.ErrWait)
	sends(t, p, 1, nu(3), api.ErrWait)
	answers(t, p.Get, 1, nu(1), nu(1))
	has(t, p, 1, 2)
	sends(t, p, 1, nu(3), api.OK)
	sends(t, p, 1, nu(4), api.ErrWait)
	for _, want := range []int64{0, 2, 3} { // the newest stands behind all others
		answers(t, p.Get, 1, va(1), nu(want))
	}
	refuses(t, p.Get, 1, va(1), api.ErrWait)
}

// P14.2: of messages that fit the one that came first, each once, among others that don't fit.
func TestFirst(t *testing.T) {
	p := box(t, 64)
	for i := range int64(10) {
		sends(t, p, 1, co("a", nu(i)), api.OK)
		sends(t, p, 1, co("b", nu(i), va(9)), api.OK)
	}
	sends(t, p, 1, co("a", nu(3)), api.OK)
	answers(t, p.Peek, 1, co("b", va(1), va(1)), co("b", nu(0), va(1)))
	answers(t, p.Get, 1, co("b", va(1), va(1)), co("b", nu(0), va(1)))
	answers(t, p.Get, 1, co("b", nu(2), va(1)), co("b", nu(2), va(1)))
	answers(t, p.Get, 1, co("b", va(1), at("c")), co("b", nu(1), va(1)))
	answers(t, p.Get, 1, co("b", va(1), va(2)), co("b", nu(3), va(1)))
	answers(t, p.Get, 1, co("a", nu(3)), co("a", nu(3)))
	answers(t, p.Get, 1, co("a", nu(3)), co("a", nu(3))) // sent twice, got twice
	refuses(t, p.Get, 1, co("a", nu(3)), api.ErrWait)
	refuses(t, p.Peek, 1, co("c", va(1)), api.ErrWait)
	for _, i := range []int64{0, 1, 2} {
		answers(t, p.Get, 1, va(5), co("a", nu(i)))
	}
	for _, i := range []int64{4, 5, 6, 7, 8, 9} {
		answers(t, p.Get, 1, va(5), co("a", nu(i)))
		answers(t, p.Get, 1, va(5), co("b", nu(i), va(1)))
	}
	has(t, p, 1, 0)
}

// P14.2: Peek again and again tells the same and lets it be; Get of the same pattern goes on.
func TestPeek(t *testing.T) {
	p := box(t, 5)
	pattern := co("m", va(3), va(4))
	sends(t, p, 1, at("n"), api.OK)
	sends(t, p, 1, co("m", va(7), va(5)), api.OK)
	sends(t, p, 1, co("m", nu(2), at("b")), api.OK)
	for range 3 {
		answers(t, p.Peek, 1, pattern, co("m", va(1), va(2)))
		has(t, p, 1, 3)
	}
	answers(t, p.Get, 1, pattern, co("m", va(1), va(2)))
	answers(t, p.Peek, 1, pattern, co("m", nu(2), at("b")))
	answers(t, p.Get, 1, pattern, co("m", nu(2), at("b")))
	refuses(t, p.Peek, 1, pattern, api.ErrWait)
	refuses(t, p.Get, 1, pattern, api.ErrWait)
	answers(t, p.Peek, 1, va(math.MaxInt64), at("n"))
	has(t, p, 1, 1)
}

// P14.1: queues beside one another have nothing in common, and go with what is in them.
func TestApartQueues(t *testing.T) {
	p := post.New()
	makes(t, p, 2, 1)
	makes(t, p, 2, 2)
	sends(t, p, 1, at("a"), api.OK)
	sends(t, p, 1, at("b"), api.OK)
	sends(t, p, 1, at("c"), api.ErrWait)
	refuses(t, p.Get, 2, va(1), api.ErrWait)
	sends(t, p, 2, at("c"), api.OK)
	drops(t, p, 1, api.OK)
	has(t, p, 2, 1)
	makes(t, p, 2, 3)
	has(t, p, 3, 0)
	refuses(t, p.Peek, 3, va(1), api.ErrWait)
	answers(t, p.Get, 2, va(1), at("c"))
	other := box(t, 1) // and so have posts
	sends(t, other, 1, at("z"), api.OK)
	has(t, p, 2, 0)
	has(t, p, 3, 0)
}
