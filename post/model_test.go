package post_test

import (
	"math/rand"
	"slices"
	"testing"

	"pythia/api"
	"pythia/post"
)

// model is a post made plainly: all queues that there ever were.
type model []queue

// queue is a queue of the model, by its number less 1.
type queue struct {
	gone     bool
	most     int
	messages []api.Term
}

func (m *model) queues() []int {
	var numbers []int
	for i, b := range *m {
		if !b.gone {
			numbers = append(numbers, i+1)
		}
	}
	return numbers
}

func (m *model) make(most int) (int, api.Errno) {
	if len(m.queues()) == 8 {
		return 0, api.ErrMany
	}
	*m = append(*m, queue{most: max(1, min(most, 64))})
	return len(*m), api.OK
}

func (m *model) of(q int) *queue {
	if q < 1 || q > len(*m) || (*m)[q-1].gone {
		return nil
	}
	return &(*m)[q-1]
}

func (m *model) drop(q int) api.Errno {
	b := m.of(q)
	if b == nil {
		return api.ErrQueue
	}
	b.gone = true
	return api.OK
}

func (m *model) send(q int, t api.Term) api.Errno {
	b := m.of(q)
	switch {
	case b == nil:
		return api.ErrQueue
	case t.Kind == 0:
		return api.ErrTerm
	case len(b.messages) == b.most:
		return api.ErrWait
	}
	b.messages = append(b.messages, named(t, map[int64]int64{}))
	return api.OK
}

func (m *model) ask(q int, pattern api.Term, takes bool) (api.Term, api.Errno) {
	b := m.of(q)
	switch {
	case b == nil:
		return api.Term{}, api.ErrQueue
	case pattern.Kind == 0:
		return api.Term{}, api.ErrTerm
	}
	for i, message := range b.messages {
		if !fit(message, pattern) {
			continue
		}
		if takes {
			b.messages = slices.Concat(b.messages[:i], b.messages[i+1:])
		}
		return message, api.OK
	}
	return api.Term{}, api.ErrWait
}

// named is a term whose variables are numbered in the order in which they stand in it.
func named(t api.Term, names map[int64]int64) api.Term {
	return turned(t, func(n int64) int64 {
		if names[n] == 0 {
			names[n] = int64(len(names)) + 1
		}
		return names[n]
	})
}

// turned is a term in new memory with other variables.
func turned(t api.Term, name func(int64) int64) api.Term {
	if t.Kind == api.Var {
		return va(name(t.Int))
	}
	if t.Kind == api.Comp {
		args := make([]api.Term, len(t.Args))
		for i, arg := range t.Args {
			args[i] = turned(arg, name)
		}
		t.Args = args
	}
	return t
}

// fit tells by plain bindings, one in the other, whether a message and a pattern have a solution: even variables are the message's, odd ones the pattern's.
func fit(message, pattern api.Term) bool {
	even := turned(message, func(n int64) int64 { return 2 * n })
	odd := turned(pattern, func(n int64) int64 { return 2*n + 1 })
	return joined(even, odd, map[int64]api.Term{})
}

// as is what a term is by its name or its binding.
func as(t api.Term, bound map[int64]api.Term) api.Term {
	for t.Kind == api.Var {
		to, ok := bound[t.Int]
		if !ok {
			break
		}
		t = to
	}
	return t
}

// within tells whether a variable stands in a term.
func within(v int64, t api.Term, bound map[int64]api.Term) bool {
	t = as(t, bound)
	return t.Kind == api.Var && t.Int == v ||
		slices.ContainsFunc(t.Args, func(arg api.Term) bool { return within(v, arg, bound) })
}

// joined makes two terms the same, or tells that it can't be.
func joined(a, b api.Term, bound map[int64]api.Term) bool {
	a, b = as(a, bound), as(b, bound)
	switch {
	case a.Kind == api.Var && b.Kind == api.Var && a.Int == b.Int:
		return true
	case a.Kind == api.Var:
		bound[a.Int] = b
		return !within(a.Int, b, without(bound, a.Int))
	case b.Kind == api.Var:
		return joined(b, a, bound)
	case a.Kind != b.Kind || a.Name != b.Name || a.Int != b.Int || len(a.Args) != len(b.Args):
		return false
	}
	for i := range a.Args {
		if !joined(a.Args[i], b.Args[i], bound) {
			return false
		}
	}
	return true
}

// without are the bindings but for one.
func without(bound map[int64]api.Term, but int64) map[int64]api.Term {
	others := map[int64]api.Term{}
	for v, to := range bound {
		if v != but {
			others[v] = to
		}
	}
	return others
}

// short are all terms of few symbols over some variables.
func short() []api.Term {
	ones := []api.Term{va(1), va(2), at("a"), nu(1)}
	ts := slices.Clone(ones)
	for _, x := range ones {
		ts = append(ts, co("s", x), co("s", co("s", x)))
		for _, y := range ones {
			ts = append(ts, co("f", x, y), co("f", x, co("s", y)), co("f", co("s", x), y), co("s", co("f", x, y)))
		}
	}
	return ts
}

// P14.1, P14.2: each of all short messages beside each of all short patterns.
func TestAllShort(t *testing.T) {
	ts := short()
	for _, message := range ts {
		p := box(t, 1)
		kept := named(message, map[int64]int64{})
		for _, pattern := range ts {
			sends(t, p, 1, message, api.OK)
			if fit(message, pattern) {
				answers(t, p.Peek, 1, pattern, kept)
				answers(t, p.Get, 1, pattern, kept)
				continue
			}
			refuses(t, p.Peek, 1, pattern, api.ErrWait)
			refuses(t, p.Get, 1, pattern, api.ErrWait)
			answers(t, p.Get, 1, va(1), kept)
		}
	}
}

// answer is what a call answers.
type answer struct {
	number  int
	message api.Term
	err     api.Errno
}

// play makes one call on both, and tells what each answers.
func play(r *rand.Rand, p *post.Post, m *model) (got, want answer) {
	q, u := len(*m)-r.Intn(11), anyTerm(r, 3, 3)
	if there := m.queues(); r.Intn(4) > 0 && len(there) > 0 {
		q = there[r.Intn(len(there))]
	}
	if r.Intn(30) == 0 {
		u = api.Term{}
	}
	switch k := r.Intn(100); {
	case k < 4:
		most := r.Intn(12) - 2
		got.number, got.err = p.Make(most)
		want.number, want.err = m.make(most)
	case k < 6:
		got.err, want.err = p.Drop(q), m.drop(q)
	case k < 55:
		got.err, want.err = p.Send(q, u), m.send(q, u)
	case k < 80:
		got.message, got.err = p.Get(q, u)
		want.message, want.err = m.ask(q, u, true)
	default:
		got.message, got.err = p.Peek(q, u)
		want.message, want.err = m.ask(q, u, false)
	}
	return got, want
}

// P14.1 to P14.3: calls in a great many orders, beside the model.
func TestManyOrders(t *testing.T) {
	r := rand.New(rand.NewSource(14))
	for game := range 150 {
		p, m := post.New(), &model{}
		for call := range 400 {
			got, want := play(r, p, m)
			if got.number != want.number || !same(got.message, want.message) || got.err != want.err {
				t.Fatalf("game %d, call %d: %d, %s, %d, not %d, %s, %d", game, call, got.number, text(got.message), got.err, want.number, text(want.message), want.err)
			}
			there(t, p, m.queues()...)
			for q := range len(*m) + 2 {
				b := m.of(q)
				if n, e := p.Len(q); b == nil && (n != 0 || e != api.ErrQueue) || b != nil && (n != len(b.messages) || e != api.OK) {
					t.Fatalf("game %d, call %d: Len(%d) = %d, %d", game, call, q, n, e)
				}
			}
		}
		for _, q := range m.queues() {
			for _, message := range m.of(q).messages {
				answers(t, p.Get, q, va(1), message)
			}
			refuses(t, p.Get, q, va(1), api.ErrWait)
		}
	}
}

// P14.2: what is sent is got once, whatever is asked for in between.
func TestOnce(t *testing.T) {
	r := rand.New(rand.NewSource(142))
	p := box(t, 20)
	got := map[int64]int{}
	last := [4]int64{-1, -1, -1, -1}
	sent := int64(0)
	for range 5000 {
		if kind := r.Int63n(4); r.Intn(2) == 0 {
			if p.Send(1, co("m", nu(kind), va(1), nu(sent))) == api.OK {
				sent++
			}
		} else if message, e := p.Get(1, co("m", nu(kind), at("x"), va(1))); e == api.OK {
			number := message.Args[2].Int
			if got[number]++; got[number] > 1 || message.Args[0].Int != kind || number <= last[kind] {
				t.Fatalf("%s is got behind %d", text(message), last[kind])
			}
			last[kind] = number
		}
	}
	for left, _ := p.Len(1); left > 0; left-- {
		message, _ := p.Get(1, va(1))
		got[message.Args[2].Int]++
	}
	for number := range sent {
		if got[number] != 1 {
			t.Fatalf("%d is got %d times", number, got[number])
		}
	}
}
