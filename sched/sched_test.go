package sched_test

import (
	"math"
	"slices"
	"testing"

	"pythia/api"
	"pythia/sched"
)

func TestExample(t *testing.T) {
	s := sched.New(2)
	one, e := s.Spawn()
	two, f := s.Spawn()
	if one != 1 || two != 2 || e != api.OK || f != api.OK {
		t.Errorf("Spawn = %d, %d, %d, %d", one, e, two, f)
	}
	if e := s.Block(1, 7); e != api.OK {
		t.Errorf("Block = %d", e)
	}
	if s.Pick(1) || !s.Pick(2) || s.Wake(7) != 1 || !s.Pick(1) {
		t.Error("Pick, Wake")
	}
	if e, f := s.End(2), s.Free(2); e != api.OK || f != api.OK || s.State(2) != 0 {
		t.Errorf("End, Free: %d, %d; State %d", e, f, s.State(2))
	}
	if three, e := s.Spawn(); three != 3 || e != api.OK {
		t.Errorf("Spawn = %d, %d", three, e)
	}
	if for1, for0 := s.Counts(); for1 != 2 || for0 != 1 {
		t.Errorf("Counts = %d, %d", for1, for0)
	}
}

// P6.1: how many may not be gone.
func TestMost(t *testing.T) {
	for most, want := range map[int]int{
		math.MinInt: 1, -1: 1, 0: 1, 1: 1, 2: 2, 7: 7, 8: 8, 9: 8, math.MaxInt: 8,
	} {
		s := sched.New(most)
		if len(s.Ready()) != 0 || s.State(1) != 0 {
			t.Errorf("New(%d) has threads", most)
		}
		for n := 1; n <= want; n++ {
			if m, e := s.Spawn(); m != n || e != api.OK {
				t.Errorf("New(%d): Spawn = %d, %d, not %d", most, m, e, n)
			}
		}
		if n, e := s.Spawn(); n != 0 || e != api.ErrMany {
			t.Errorf("New(%d): Spawn behind %d = %d, %d", most, want, n, e)
		}
		// Who is blocked or over isn't gone.
		s.Block(1, 1)
		if n, e := s.Spawn(); n != 0 || e != api.ErrMany {
			t.Errorf("New(%d): Spawn behind Block = %d, %d", most, n, e)
		}
		s.Wake(1)
		s.End(1)
		if n, e := s.Spawn(); n != 0 || e != api.ErrMany {
			t.Errorf("New(%d): Spawn behind End = %d, %d", most, n, e)
		}
		s.Free(1)
		// A refused Spawn took no number.
		if n, e := s.Spawn(); n != want+1 || e != api.OK {
			t.Errorf("New(%d): Spawn behind Free = %d, %d", most, n, e)
		}
	}
}

// P6.1: each call on a thread in each state, and on none.
func TestStates(t *testing.T) {
	const gone, ready, blocked, over = 0, 1, 2, 3
	calls := []func(s *sched.Sched, n int) api.Errno{
		func(s *sched.Sched, n int) api.Errno { return s.Block(n, 5) },
		func(s *sched.Sched, n int) api.Errno { return s.End(n) },
		func(s *sched.Sched, n int) api.Errno { return s.Free(n) },
	}
	for state, want := range [][3]api.Errno{
		gone:    {api.ErrGone, api.ErrGone, api.ErrGone},
		ready:   {api.OK, api.OK, api.ErrBlocked},
		blocked: {api.ErrBlocked, api.ErrBlocked, api.ErrBlocked},
		over:    {api.ErrBlocked, api.ErrBlocked, api.OK},
	} {
		for i, call := range calls {
			s := sched.New(3)
			s.Spawn()
			s.Spawn()
			switch state {
			case gone:
				s.End(2)
				s.Free(2)
			case blocked:
				s.Block(2, 9)
			case over:
				s.End(2)
			}
			if got := s.State(2); got != state {
				t.Errorf("State = %d, not %d", got, state)
			}
			if e := call(s, 2); e != want[i] {
				t.Errorf("call %d in state %d = %d, not %d", i, state, e, want[i])
			}
			became := state
			if want[i] == api.OK {
				became = []int{blocked, over, gone}[i]
			}
			if got := s.State(2); got != became || s.State(1) != ready {
				t.Errorf("call %d in state %d: State %d, not %d", i, state, got, became)
			}
			// A call that was refused has changed nothing: neither what is waited for.
			if n := s.Wake(9); state == blocked && n != 1 {
				t.Errorf("call %d in state %d: Wake(9) = %d", i, state, n)
			}
		}
	}
	s := sched.New(3)
	s.Spawn()
	for _, n := range []int{0, -1, 2, 8, 9, math.MaxInt, math.MinInt} {
		for i, call := range calls {
			if e := call(s, n); e != api.ErrGone {
				t.Errorf("call %d on thread %d = %d", i, n, e)
			}
		}
		if s.State(n) != 0 || s.Pick(n) {
			t.Errorf("there is a thread %d", n)
		}
	}
	if for1, for0 := s.Counts(); for1 != 0 || for0 != 7 {
		t.Errorf("Counts = %d, %d", for1, for0)
	}
}

// P6.2: who is blocked is ready behind a Wake of its key, and of no other; who is over stays so.
func TestWake(t *testing.T) {
	keys := []int{0, 1, -1, math.MaxInt, math.MinInt, 1}
	s := sched.New(8)
	for _, key := range keys {
		n, _ := s.Spawn()
		s.Block(n, key)
	}
	s.Spawn() // 7 is ready
	s.Spawn()
	s.End(8)
	for _, c := range []struct {
		key, woken int
		ready      []int
	}{
		{2, 0, []int{7}}, {0, 1, []int{1, 7}}, {0, 0, []int{1, 7}}, {1, 2, []int{1, 2, 6, 7}},
		{math.MinInt, 1, []int{1, 2, 5, 6, 7}}, {math.MaxInt, 1, []int{1, 2, 4, 5, 6, 7}}, {-1, 1, []int{1, 2, 3, 4, 5, 6, 7}}, {-1, 0, []int{1, 2, 3, 4, 5, 6, 7}},
	} {
		if n := s.Wake(c.key); n != c.woken || !slices.Equal(s.Ready(), c.ready) {
			t.Errorf("Wake(%d) = %d, Ready %v, not %d, %v", c.key, n, s.Ready(), c.woken, c.ready)
		}
	}
	if s.State(8) != 3 || s.Pick(8) {
		t.Errorf("who is over: State %d", s.State(8))
	}
}

// thread is a thread of the plain model below.
type thread struct{ state, key int }

// model is a scheduler made plainly: all threads that there ever were.
type model struct {
	most    int
	threads []thread
	counts  [2]int
}

func (m *model) state(n int) int {
	if n < 1 || n > len(m.threads) {
		return 0
	}
	return m.threads[n-1].state
}

func (m *model) ready() []int {
	var numbers []int
	for i, x := range m.threads {
		if x.state == 1 {
			numbers = append(numbers, i+1)
		}
	}
	return numbers
}

func (m *model) spawn() (int, api.Errno) {
	there := 0
	for _, x := range m.threads {
		if x.state != 0 {
			there++
		}
	}
	if there >= m.most {
		return 0, api.ErrMany
	}
	m.threads = append(m.threads, thread{state: 1})
	return len(m.threads), api.OK
}

func (m *model) turn(n, from int, to thread) api.Errno {
	switch m.state(n) {
	case 0:
		return api.ErrGone
	case from:
		m.threads[n-1] = to
		return api.OK
	}
	return api.ErrBlocked
}

func (m *model) wake(key int) int {
	woken := 0
	for i, x := range m.threads {
		if x == (thread{2, key}) {
			m.threads[i] = thread{state: 1}
			woken++
		}
	}
	return woken
}

func (m *model) pick(n int) bool {
	if m.state(n) == 1 {
		m.counts[0]++
		return true
	}
	m.counts[1]++
	return false
}

// dice tells numbers that are the same at every run.
type dice uint64

func (d *dice) roll(n int) int {
	*d = *d*6364136223846793005 + 1442695040888963407
	return int(*d>>33) % n
}

// P6.1, P6.2: calls in a great many orders, beside the model.
func TestManyOrders(t *testing.T) {
	d := dice(1)
	for range 500 {
		most := 1 + d.roll(8)
		s, m := sched.New(most), &model{most: most}
		for range 200 {
			n, key := 1+len(m.threads)-d.roll(most+3), d.roll(3)
			var got, want any
			switch call := d.roll(7); call {
			case 0:
				g, ge := s.Spawn()
				w, we := m.spawn()
				got, want = [2]int{g, int(ge)}, [2]int{w, int(we)}
			case 1:
				got, want = s.Block(n, key), m.turn(n, 1, thread{2, key})
			case 2:
				got, want = s.End(n), m.turn(n, 1, thread{3, 0})
			case 3:
				got, want = s.Free(n), m.turn(n, 3, thread{})
			case 4:
				got, want = s.Wake(key), m.wake(key)
			default:
				got, want = s.Pick(n), m.pick(n)
			}
			if got != want {
				t.Fatalf("a call on %d or %d: %v, not %v", n, key, got, want)
			}
			if got, want := s.Ready(), m.ready(); !slices.Equal(got, want) {
				t.Fatalf("Ready = %v, not %v", got, want)
			}
			for n := range len(m.threads) + 2 {
				if got, want := s.State(n), m.state(n); got != want {
					t.Fatalf("State(%d) = %d, not %d", n, got, want)
				}
			}
			if a, b := s.Counts(); m.counts != [2]int{a, b} {
				t.Fatalf("Counts = %d, %d, not %v", a, b, m.counts)
			}
		}
	}
}

// P6.3: answers are new memory.
func TestNewMemory(t *testing.T) {
	s := sched.New(3)
	s.Spawn()
	s.Spawn()
	s.Spawn()
	for range 3 {
		got := s.Ready()
		if !slices.Equal(got, []int{1, 2, 3}) {
			t.Fatalf("Ready = %v", got)
		}
		got = got[:cap(got)]
		for i := range got {
			got[i] = 9
		}
	}
	held := s.Ready()
	s.Block(1, 1)
	s.End(2)
	if !slices.Equal(held, []int{1, 2, 3}) {
		t.Errorf("what was held has become %v", held)
	}
}
